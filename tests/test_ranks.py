"""Ranks [0.10], [7.1] to [7.6]: crestjoin.rank.ranks."""

import random
import unittest
from itertools import product

from crestjoin.errors import InvalidLot, InvalidNumber, InvalidOperation, InvalidRank
from crestjoin.rank.ranks import (
    basic_sums, contracted_rank, is_rank, parity_rank, rank_fault, rank_parts, restricted_rank, scaled_rank, step_rank,
    sum_rank,
)
from crestjoin.table.tables import Table, project
from tests.support import (
    BOOLS, GREATEST, HUGE, LONG_NUMBERS, OBJECTS, ODD, WRONG_LOTS, added, all_lots, check_judge, check_wrongs, common, less,
    ranks_plainly, refused, some_ranks, union, with_bools, wrong_numbers,
)

LOTS = ((), (3,), (0, 1), (1, 4), (0, 2, 5), (0, 1, 2), (1, 2, 3, 4), (0, 1, 2, 3, 5))


def all_small(lot, numbers):
    """All dicts with small numbers on a lot of at most two letters."""
    lots = all_lots(lot)
    for values in product(numbers, repeat=len(lots)):
        yield dict(zip(lots, values))


class JudgeTest(unittest.TestCase):
    def test_is_rank_by_all_pairs_of_lots(self):
        """[7.1], [7.2]: the basic inequalities are enough."""
        for lot in LOTS:
            right = list(some_ranks(lot, 71, 12))
            self.assertTrue(all(ranks_plainly(lot, h) for h in right))
            check_judge(self, lambda value, lot=lot: is_rank(lot, value), right)
        for lot in LOTS[:4]:
            for h in all_small(lot, (-1, 0, 1, 2)):
                self.assertIs(is_rank(lot, h), ranks_plainly(lot, h))
        chance = random.Random(72)
        for lot in LOTS[4:]:
            for h in some_ranks(lot, 73, 30):
                for some in chance.sample(all_lots(lot), 6):
                    for change in (-1, 1, -HUGE, HUGE):
                        near = {x: h[x] + (change if x == some else 0) for x in h}
                        self.assertIs(is_rank(lot, near), ranks_plainly(lot, near))

    def test_all_numbers_are_at_least_nought(self):
        """[7.1]"""
        for lot in LOTS[:4]:
            for h in all_small(lot, (-1, 0, 1)):
                self.assertTrue(not is_rank(lot, h) or min(h.values()) >= 0)

    def test_other_forms_are_no_rank(self):
        h = step_rank((0, 1), (0, 1))
        wrong = [tuple(h.items()), list(h.items()), {**h, (0, 1, 2): 1}, {x: h[x] for x in list(h)[1:]}, {**h, (2,): 1},
                 {**h, None: 0}, {**h, "0": 0}, {**h, (0, 1): None}, {**h, (0, 1): "1"}, {**h, (0, 1): (1,)},
                 {**h, (1, 0): 1}, {**h, 0: 0}, {}, {(): 0}, dict.fromkeys(h, None), {**h, (): 1}, {**h, (): None}]
        check_judge(self, lambda value: is_rank((0, 1), value), [h, {x: HUGE * h[x] for x in h}], wrong)
        for value in wrong[:-2] + [None, 0, "", [], SOME] + with_bools(h):
            self.assertEqual(rank_fault((0, 1), value), ("form",))
        for n in (1, -1, HUGE):
            self.assertEqual(rank_fault((0, 1), {**h, (): n}), ("empty",))
        check_judge(self, lambda value: is_rank((), value), [{(): 0}], [{(): 1}, {}, {(): None}, {(0,): 0}, ()])

    def test_the_sequence_of_a_dict_does_not_matter(self):
        h = step_rank((0, 1, 2), (0, 1))
        turned = {x: h[x] for x in sorted(h, reverse=True)}
        self.assertIs(is_rank((0, 1, 2), turned), True)
        self.assertEqual(list(sum_rank((0, 1, 2), turned, turned)), all_lots((0, 1, 2)))

    def test_the_first_fault(self):
        """[7.2], word for word: the letters first, then i, j and K."""
        chance = random.Random(74)
        for lot in LOTS:
            for h in some_ranks(lot, 75, 25):
                bent = {x: h[x] + chance.choice((-2, -1, 0, 0, 0, 0, 1)) * (x != ()) for x in h}
                self.assertEqual(rank_fault(lot, bent), first_fault(lot, bent))
                self.assertIsNone(rank_fault(lot, h))
        for h in all_small((2, 3), (0, 1, 2, 3)):
            self.assertEqual(rank_fault((2, 3), h), first_fault((2, 3), h))


SOME = Table((0, 1, 2), ((0, 0, 0), (0, 1, 1), (1, 0, 1), (1, 1, 0)))


def first_fault(lot, h):
    if h[()] != 0:
        return ("empty",)
    for i in lot:
        if h[lot] < h[less(lot, (i,))]:
            return ("rise", i)
    for i in lot:
        for j in lot:
            for K in all_lots(lot):
                if i < j and i not in K and j not in K:
                    if h[union(K, (i,))] + h[union(K, (j,))] < h[K] + h[union(K, (i, j))]:
                        return ("cross", i, j, K)
    return None


class MadeTest(unittest.TestCase):
    def test_steps_and_parities(self):
        """[7.3]"""
        for lot in LOTS:
            for some in all_lots(lot)[1:]:
                step, parity = step_rank(lot, some), parity_rank(lot, some)
                for x in all_lots(lot):
                    shared = len(common(x, some))
                    self.assertEqual((step[x], parity[x]), (int(shared > 0), min(shared, len(some) - 1)))
                self.assertEqual((list(step), list(parity)), (all_lots(lot), all_lots(lot)))
                self.assertTrue(ranks_plainly(lot, step) and ranks_plainly(lot, parity))

    def test_a_parity_is_how_many_rows_of_a_table_of_bits_there_are(self):
        parity = parity_rank((0, 1, 2), (0, 1, 2))
        for x in all_lots((0, 1, 2)):
            self.assertEqual(len(project(SOME, x)), 2 ** parity[x])

    def test_put_together(self):
        """[7.4]"""
        for lot in LOTS:
            ranks = list(some_ranks(lot, 76, 6))
            for one, other in zip(ranks, ranks[1:]):
                both = sum_rank(lot, one, other)
                self.assertEqual(both, {x: one[x] + other[x] for x in one})
                self.assertTrue(ranks_plainly(lot, both))
                for number in (0, 1, 7, GREATEST):
                    more = scaled_rank(lot, one, number)
                    self.assertEqual(more, {x: one[x] * number for x in one})
                    self.assertTrue(ranks_plainly(lot, more))
                for some in all_lots(lot):
                    lesser, rest = restricted_rank(lot, one, some), contracted_rank(lot, one, some)
                    self.assertEqual(lesser, {x: one[x] for x in all_lots(some)})
                    self.assertEqual(rest, {x: one[union(x, some)] - one[some] for x in all_lots(less(lot, some))})
                    self.assertTrue(ranks_plainly(some, lesser) and ranks_plainly(less(lot, some), rest))
                    self.assertEqual((list(lesser), list(rest)), (all_lots(some), all_lots(less(lot, some))))

    def test_basic_sums(self):
        """[7.2]: their sequence, and that a rank is what keeps them all."""
        for lot in LOTS:
            sums = basic_sums(lot)
            plain = [added([(lot, 1), (less(lot, (i,)), -1)]) for i in lot]
            plain += [added([(union(K, (i,)), 1), (union(K, (j,)), 1), (K, -1), (union(K, (i, j)), -1)])
                      for i in lot for j in lot if i < j for K in all_lots(less(lot, (i, j)))]
            self.assertEqual(sums, tuple(plain))
            self.assertTrue(all(list(total) == sorted(total) for total in sums))
        for lot in LOTS[:4]:
            for h in all_small(lot, (0, 1, 2)):
                kept = all(sum(h[x] * n for x, n in total.items()) >= 0 for total in basic_sums(lot))
                self.assertEqual(is_rank(lot, h), h[()] == 0 and kept)

    def test_up_to_three_letters(self):
        """[7.5]"""
        for lot in LOTS[:6]:
            whole = list(some_ranks(lot, 77, 40))
            if len(lot) == 3:
                whole += [sum_rank(lot, scaled_rank(lot, parity_rank(lot, lot), n), h) for n, h in enumerate(whole[:12])]
            for h in whole:
                parts = rank_parts(lot, h)
                self.assertEqual(put(lot, parts), h)
                self.assertTrue(min(parts.values(), default=1) >= 1 and list(parts) == sorted(parts))
                self.assertFalse(("step", lot) in parts and ("parity", lot) in parts)
                self.assertTrue(all(name == "step" or (some == lot and len(lot) == 3) for name, some in parts))

    def test_in_just_one_way(self):
        """[7.5]"""
        lot = (0, 2, 5)
        names = [("step", some) for some in all_lots(lot)[1:]]
        seen = {}
        for counts in product((0, 1, 2), repeat=len(names)):
            for parity in (0, 1, 2):
                parts = {name: n for name, n in [*zip(names, counts), (("parity", lot), parity)] if n > 0}
                if not (("step", lot) in parts and parity > 0) and sum(counts) <= 4:
                    h = tuple(put(lot, parts).values())
                    self.assertNotIn(h, seen)
                    seen[h] = parts
        for h in list(seen)[::5]:
            self.assertEqual(rank_parts(lot, dict(zip(all_lots(lot), h))), seen[h])

    def test_edges_of_the_parts(self):
        self.assertEqual(rank_parts((), {(): 0}), {})
        self.assertEqual(rank_parts((4,), {(): 0, (4,): HUGE}), {("step", (4,)): HUGE})
        self.assertEqual(rank_parts((0, 1, 2), step_rank((0, 1, 2), (0, 1, 2))), {("step", (0, 1, 2)): 1})
        both = sum_rank((0, 1, 2), step_rank((0, 1, 2), (0, 1, 2)), parity_rank((0, 1, 2), (0, 1, 2)))
        self.assertEqual(rank_parts((0, 1, 2), both), {("step", (0, 1)): 1, ("step", (0, 2)): 1, ("step", (1, 2)): 1})


def put(lot, parts):
    """The sum of steps and parities, from the words of the document."""
    h = dict.fromkeys(all_lots(lot), 0)
    for (name, some), n in parts.items():
        for x in h:
            shared = len(common(x, some))
            h[x] += n * (min(shared, 1) if name == "step" else min(shared, len(some) - 1))
    return h


class WrongArgumentsTest(unittest.TestCase):
    LOT = (InvalidLot, WRONG_LOTS + ((0, 1, 2, 3, 4, 5),))
    SOME_LOT = (InvalidLot, WRONG_LOTS + ((2,), (0, 2), (0, 1, 2), (5,)))
    RIGHT = {(): 0, (0,): 1, (0, 1): 2, (1,): 1}
    RANKS = (InvalidRank, ODD + OBJECTS + BOOLS + LONG_NUMBERS + (
        0, (), {(): 0}, {**RIGHT, (): 1}, {**RIGHT, (0,): 3}, {**RIGHT, (0, 1): 3}, {**RIGHT, (0,): True},
        {**RIGHT, (2,): 1}, {**RIGHT, (0,): None}, {**RIGHT, (0,): "1"}, {(): 0, (False,): 1, (0, 1): 2, (1,): 1},
        {**RIGHT, (): False}, tuple(RIGHT.items())))

    def test_lots(self):
        for value in (self.RIGHT, None, {}, 0):
            check_wrongs(self, is_rank, ((0, 1), value), ((self.LOT,), ()))
            check_wrongs(self, rank_fault, ((0, 1), value), ((self.LOT,), ()))
        check_wrongs(self, basic_sums, ((0, 1),), ((self.LOT,),))
        for call in (step_rank, parity_rank):
            check_wrongs(self, call, ((0, 1), (1,)), ((self.LOT,), (self.SOME_LOT, (InvalidOperation, ((),)))))
            refused(self, InvalidLot, call, ((0, 1, 2, 3, 4, 5), ()))
            refused(self, InvalidOperation, call, ((), ()))

    def test_ranks(self):
        ranks, lots = (self.RANKS,), (self.SOME_LOT,)
        number = (InvalidNumber, wrong_numbers(0))
        check_wrongs(self, sum_rank, ((0, 1), self.RIGHT, self.RIGHT), ((self.LOT,), ranks, ranks))
        check_wrongs(self, scaled_rank, ((0, 1), self.RIGHT, 2), ((self.LOT,), ranks, (number,)))
        for call in (restricted_rank, contracted_rank):
            check_wrongs(self, call, ((0, 1), self.RIGHT, (1,)), ((self.LOT,), ranks, lots))
        check_wrongs(self, rank_parts, ((0, 1), self.RIGHT), ((self.LOT,), ranks))

    def test_parts_of_ranks_on_more_letters(self):
        for lot in ((0, 1, 2, 3), (0, 1, 2, 3, 5)):
            refused(self, InvalidOperation, rank_parts, (lot, step_rank(lot, (0,))))
            refused(self, InvalidRank, rank_parts, (lot, self.RIGHT))

    def test_five_letters_and_six(self):
        five = (0, 1, 2, 4, 5)
        self.assertIs(is_rank(five, parity_rank(five, five)), True)
        self.assertEqual(len(basic_sums(five)), 5 + 10 * 8)
        refused(self, InvalidLot, step_rank, ((0, 1, 2, 3, 4, 5), (0,)))


class NotTrueTest(unittest.TestCase):
    """[7.6]"""

    def test_what_rises_need_not_be_a_rank(self):
        h = {(): 0, (0,): 1, (0, 1): 3, (1,): 1}
        self.assertTrue(all(h[x] <= h[y] for x in h for y in h if set(x) <= set(y)))
        self.assertIs(is_rank((0, 1), h), False)

    def test_the_greatest_of_two_ranks_need_not_be_one(self):
        lot = (0, 1, 2)
        one = sum_rank(lot, step_rank(lot, (0,)), step_rank(lot, (1,)))
        other = step_rank(lot, (2,))
        greatest = {x: max(one[x], other[x]) for x in one}
        self.assertEqual((is_rank(lot, one), is_rank(lot, other)), (True, True))
        self.assertEqual((is_rank(lot, greatest), ranks_plainly(lot, greatest)), (False, False))


if __name__ == "__main__":
    unittest.main()
