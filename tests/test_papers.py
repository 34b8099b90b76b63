"""Inequalities between ranks [8.1] to [8.5], [0.14]: crestjoin.rank.papers."""

import random
import unittest
from itertools import product

from crestjoin.errors import InvalidLot, InvalidNumber, InvalidOperation, InvalidRank
from crestjoin.rank.papers import (
    cover_total, greater_total, inequality_answer, is_inequality_answer, lesser_total, made_sum, value_at,
)
from crestjoin.rank.ranks import parity_rank, step_rank
from tests.support import (
    BOOLS, GREATEST, HUGE, LONG, LONGEST, LONG_NUMBERS, OBJECTS, ODD, WRONG_LOTS, added, all_lots, check_judge,
    check_wrongs, common, is_triple_plainly, made_plainly, ranks_plainly, refused, shown, some_ranks, union,
    wrong_numbers,
)

ABC = (0, 1, 2)
FIVE = (0, 1, 3, 4, 5)
LOTS = ((), (3,), (0, 4), ABC, (1, 2, 4, 5), FIVE)
TRIANGLE = {(0, 1): 1, (0, 1, 2): -2, (0, 2): 1, (1, 2): 1}
PAPER = (1, (((0,), (1, 2), 1), ((0, 1), (0, 2), 1)), ())


def value_plainly(total, h):
    return sum(n * h[some] for some, n in total.items())


def are_apart_plainly(one, other):
    return bool(set(one) - set(other)) and bool(set(other) - set(one))


def some_triples(chance, lot, many, most):
    """Crossings and drops of the test's own."""
    lots = all_lots(lot)
    crossings, drops = {}, {}
    for _ in range(many):
        one, other = sorted((chance.choice(lots), chance.choice(lots)))
        if are_apart_plainly(one, other):
            crossings[(one, other)] = chance.randint(1, most)
        elif one != other:
            low, high = (one, other) if set(one) < set(other) else (other, one)
            drops[(low, high)] = chance.randint(1, most)
    return [tuple(pair + (n,) for pair, n in sorted(found.items())) for found in (crossings, drops)]


def is_answer_plainly(lot, total, value):
    """Whether a value of the right form is an answer, from the words of the document."""
    if value[0] == "fails":
        return list(value[1]) == all_lots(lot) and ranks_plainly(lot, value[1]) and value_plainly(total, value[1]) < 0
    E, crossings, drops = value[1]
    if not all(is_triple_plainly(lot, triple) for triple in crossings + drops) or E < 1:
        return False
    for triples in (crossings, drops):
        pairs = [triple[:2] for triple in triples]
        if list(triples) != sorted(triples) or len(set(pairs)) != len(pairs):
            return False
    if not all(one < other and are_apart_plainly(one, other) for one, other, _ in crossings):
        return False
    if not all(set(low) < set(high) for low, high, _ in drops):
        return False
    return made_plainly(crossings, drops) == added((some, E * n) for some, n in total.items())


def some_totals(seed, lot, times):
    """Sums of every kind: some that hold, some that just fail, some of nine digits."""
    chance = random.Random(seed)
    lots = all_lots(lot)[1:]
    yield {}
    for at in range(times):
        crossings, drops = some_triples(chance, lot, chance.randint(1, 12), chance.choice((1, 3, 10 ** 6)))
        total = made_plainly(crossings, drops)
        if lots and at % 3 == 1:
            some = chance.choice(lots)
            total[some] = total.get(some, 0) - chance.choice((0, 1, 2, 10 ** 5))
        if lots and at % 3 == 2:
            total = {some: chance.choice((0, 1, -1, GREATEST, -GREATEST, chance.randint(-GREATEST, GREATEST)))
                     for some in lots if chance.random() < 0.7}
        yield total


class MadeTest(unittest.TestCase):
    def test_made_sums_added_up_plainly(self):
        """[8.1], with counts of any length, and lots () in drops."""
        chance = random.Random(81)
        for lot in LOTS:
            ranks = list(some_ranks(lot, 82, 12)) + [step_rank(lot, some) for some in all_lots(lot)[1:]]
            for most in (1, 5, HUGE):
                crossings, drops = some_triples(chance, lot, 14, most)
                total = made_sum(lot, crossings, drops)
                self.assertEqual(total, made_plainly(crossings, drops))
                self.assertEqual(list(total), sorted(total))
                self.assertTrue(() not in total and 0 not in total.values())
                self.assertTrue(all(value_plainly(total, h) >= 0 for h in ranks))
        self.assertEqual(made_sum(ABC, (), ()), {})
        self.assertEqual(made_sum((), (), ()), {})
        self.assertEqual(made_sum(ABC, (((0,), (1,), 2),), (((), (0, 1), 3),)), {(0,): 2, (0, 1): 1, (1,): 2})
        self.assertEqual(made_sum(ABC, (((0,), (1,), 2),), (((0,), (0, 1), 2),)), {(1,): 2})

    def test_values_added_up_plainly(self):
        for lot in LOTS:
            for h in some_ranks(lot, 83, 6):
                for total in some_totals(84, lot, 6):
                    self.assertEqual(value_at(lot, total, h), value_plainly(total, h))
        self.assertEqual(value_at((), {}, {(): 0}), 0)
        self.assertEqual(value_at((3,), {(3,): -GREATEST}, {(): 0, (3,): HUGE}), -GREATEST * HUGE)
        self.assertEqual(value_at((3,), {(3,): 0}, {(): 0, (3,): HUGE}), 0)


class EitherOrTest(unittest.TestCase):
    def test_either_a_paper_or_a_rank(self):
        """[8.2], [0.14]: with lots of up to five letters and integers of nine digits."""
        seen = set()
        for at, lot in enumerate(LOTS):
            for total in some_totals(85 + at, lot, 24):
                before = shown(total)
                told = inequality_answer(lot, total)
                self.assertEqual(shown(total), before)
                self.assertTrue(is_answer_plainly(lot, total, told), (lot, total, told))
                self.assertIs(is_inequality_answer(lot, total, told), True)
                seen.add((len(lot), told[0]))
        self.assertEqual(seen, {(n, told) for n in range(1, 6) for told in ("holds", "fails")} | {(0, "holds")})

    def test_never_both(self):
        """[8.2]: where a paper is told, no rank that is tried gives less than 0."""
        for lot in LOTS:
            ranks = list(some_ranks(lot, 86, 15)) + [call(lot, some) for some in all_lots(lot)[1:]
                                                    for call in (step_rank, parity_rank)]
            for total in some_totals(87, lot, 12):
                least = min(value_plainly(total, h) for h in ranks)
                told = inequality_answer(lot, total)[0]
                self.assertTrue(told == "holds" or least >= 0 or told == "fails")
                if told == "holds":
                    self.assertGreaterEqual(least, 0)

    def test_two_letters_by_all_small_ranks(self):
        """[8.2]: ranks on two letters are sums of the three steps, so these are enough."""
        lot = (1, 4)
        steps = [step_rank(lot, some) for some in all_lots(lot)[1:]]
        for numbers in product((-2, -1, 0, 1, 2), repeat=3):
            total = dict(zip(all_lots(lot)[1:], numbers))
            holds = all(value_plainly(total, h) >= 0 for h in steps)
            self.assertEqual(inequality_answer(lot, total)[0], "holds" if holds else "fails")

    def test_three_letters_by_steps_and_the_parity(self):
        """[8.2]: the sum of [7.5]."""
        basic = [step_rank(ABC, some) for some in all_lots(ABC)[1:]] + [parity_rank(ABC, ABC)]
        chance = random.Random(88)
        seen = {True: 0, False: 0}
        for _ in range(250):
            total = {some: chance.randint(-2, 2 if chance.random() < 0.5 else 4) for some in all_lots(ABC)[1:]}
            holds = all(value_plainly(total, h) >= 0 for h in basic)
            seen[holds] += 1
            self.assertEqual(inequality_answer(ABC, total)[0], "holds" if holds else "fails")
        self.assertGreater(min(seen.values()), 25)

    def test_covers(self):
        """[8.3]: EXACTLY IF each letter is covered k times."""
        chance = random.Random(89)
        seen = {True: 0, False: 0}
        for lot in LOTS[1:]:
            for _ in range(12):
                lots = tuple(chance.choice(all_lots(lot)) for _ in range(chance.randint(0, 8)))
                weights = tuple(chance.randint(0, 3) for _ in lots)
                k = chance.randint(1, 3)
                total = cover_total(lot, lots, weights, k)
                self.assertEqual(total, added(list(zip(lots, weights)) + [(lot, -k)]))
                self.assertEqual(list(total), sorted(total))
                covered = all(sum(n for some, n in zip(lots, weights) if letter in some) >= k for letter in lot)
                seen[covered] += 1
                told = inequality_answer(lot, total)
                self.assertEqual(told[0], "holds" if covered else "fails")
                if not covered:
                    self.assertTrue(any(value_plainly(total, step_rank(lot, (i,))) < 0 for i in lot))
        self.assertGreater(min(seen.values()), 10)

    def test_the_greatest_covers(self):
        lots = tuple(all_lots(FIVE))
        total = cover_total(FIVE, lots, (GREATEST,) * 32, GREATEST)
        self.assertEqual(total, {some: GREATEST for some in lots[1:] if some != FIVE})
        self.assertEqual(inequality_answer(FIVE, total)[0], "holds")
        pairs = tuple(some for some in lots if len(some) == 2)
        even = cover_total(FIVE, pairs, (GREATEST // 4,) * 10, GREATEST)
        odd = cover_total(FIVE, pairs, (249999999,) * 9 + (250000002,), 999999999)
        for total, told in ((even, "fails"), (odd, "fails"), (cover_total(FIVE, pairs, (250000000,) * 10, GREATEST),
                                                              "holds")):
            self.assertEqual(inequality_answer(FIVE, total)[0], told)
            self.assertTrue(is_answer_plainly(FIVE, total, inequality_answer(FIVE, total)))
        self.assertEqual(cover_total(ABC, (), (), GREATEST), {ABC: -GREATEST})
        self.assertEqual(cover_total(ABC, ((), ABC), (5, 3), 3), {})
        self.assertEqual(cover_total((), ((),), (7,), 1), {})
        self.assertEqual(cover_total(ABC, ((0,), (0,)), (0, 0), 1), {ABC: -1})

    def test_little_is_lost(self):
        """[8.4]"""
        for at, lot in enumerate(LOTS):
            for total in some_totals(90 + at, lot, 6):
                holds = inequality_answer(lot, total)[0] == "holds"
                for some in all_lots(lot):
                    more, fewer = greater_total(lot, total, some), lesser_total(lot, total, some)
                    self.assertEqual(more, added([(union(x, some), n) for x, n in total.items()]
                                                 + [(some, -n) for n in total.values()]))
                    self.assertEqual(fewer, added((common(x, some), n) for x, n in total.items()))
                    self.assertEqual((list(more), list(fewer)), (sorted(more), sorted(fewer)))
                    for h in some_ranks(lot, 91, 3):
                        rest = {x: h[union(x, some)] - h[some] for x in all_lots(lot)}
                        self.assertEqual(value_plainly(more, h), value_plainly(total, rest))
                    if holds and max([abs(n) for n in more.values()], default=0) <= GREATEST and len(lot) < 5:
                        self.assertEqual(inequality_answer(lot, more)[0], "holds")
                        self.assertEqual(inequality_answer(lot, fewer)[0], "holds")
        self.assertEqual(greater_total(ABC, {(0,): 1}, ()), {(0,): 1})
        self.assertEqual(lesser_total(ABC, {(0,): 1}, ()), {})


class JudgeTest(unittest.TestCase):
    def test_papers_of_others(self):
        other = (2, (((0, 1), (1, 2), 2), ((0, 2), (1,), 2)), ())
        # By way of more drops and crossings, () among the lots.
        long = (1, (((0,), (1, 2), 1), ((0, 1), (0, 2), 1)), ())
        huge = (HUGE, (((0,), (1, 2), HUGE), ((0, 1), (0, 2), HUGE)), ())
        mixed = (2, (((0,), (1, 2), 1), ((0, 1), (0, 2), 1), ((0, 1), (1, 2), 1), ((0, 2), (1,), 1)), ())
        basic = (1, (((0,), (1,), 1), ((0, 1), (0, 2), 1), ((0, 1), (1, 2), 1)), ())
        right = [("holds", paper) for paper in (PAPER, other, long, huge, mixed, basic)]
        wrong = [("holds", (2,) + PAPER[1:]), ("holds", (0, (), ())), ("holds", (-1,) + PAPER[1:]),
                 ("holds", (1, (), ())), ("holds", PAPER[:2]), ("holds", PAPER + ((),)), ("fails", PAPER),
                 ("holds",) + PAPER, ("holds", None), ("holds", (1, PAPER[1][::-1], ())),
                 ("holds", (1, PAPER[1] + PAPER[1], ())), PAPER, ("holds",), ("holds", (1, PAPER[1][:1], ())),
                 ("holds", (1, PAPER[1], (((0,), (0, 1), 1),))), ("holds", (HUGE + 1, huge[1], ())),
                 ("holds", (1, (((1, 2), (0,), 1), ((0, 1), (0, 2), 1)), ())),
                 ("holds", (1, (((0,), (1, 2), 1), ((0, 1), (0, 2), 2)), ())),
                 ("holds", (1, (((0,), (1, 2), 1), ((0, 1), (0, 2), 1)), (((0,), (0,), 1),))),
                 ("holds", (2, (((0,), (1, 2), 1), ((0,), (1, 2), 1), ((0, 1), (0, 2), 2)), ())),
                 ("holds", ("1", PAPER[1], ())), ("holds", (1, (((0,), (1, 2)), ((0, 1), (0, 2), 1)), ())),
                 ("holds", (1, {0: 1}, ())), ("holds", (1, PAPER[1], {})), ("hold", PAPER), (None, PAPER),
                 ("holds", (1, (((0,), (1, 2), 0), ((0, 1), (0, 2), 1)), ())), ("holds", (1, ((), PAPER[1][1]), ()))]
        check_judge(self, lambda value: is_inequality_answer(ABC, TRIANGLE, value), right, wrong)

    def test_noughts_in_a_sum_do_not_matter(self):
        total = {**TRIANGLE, (0,): 0, (1,): 0}
        self.assertIs(is_inequality_answer(ABC, total, ("holds", PAPER)), True)
        self.assertEqual(inequality_answer(ABC, total), inequality_answer(ABC, TRIANGLE))
        self.assertIs(is_inequality_answer(ABC, {(0,): 0}, ("holds", (5, (), ()))), True)

    def test_ranks_of_others(self):
        total = cover_total(ABC, ((0, 1), (1, 2)), (1, 1), 2)
        step = step_rank(ABC, (0,))
        right = [("fails", h) for h in (step, step_rank(ABC, (2,)), {x: (0 in x) + (2 in x) for x in step},
                                        {x: HUGE * n for x, n in step.items()}, dict(reversed(step.items())))]
        wrong = [("fails", step_rank(ABC, (1,))), ("fails", dict.fromkeys(step, 0)), ("fails", {**step, ABC: 3}),
                 ("fails", {**step, (): 1}), ("fails", {}), ("fails", {**step, (3,): 0}), ("fails", step, 0),
                 ("fails",), ("holds", step), ("fails", tuple(step.items())), ("fails", None), ("holds", (1, (), ())),
                 ("fails", {x: -n for x, n in step.items()}), ("fails", {x: n for x, n in step.items() if x != (1,)})]
        check_judge(self, lambda value: is_inequality_answer(ABC, total, value), right, wrong)

    def test_drops_alone_and_no_letters(self):
        total = {(0,): -1, (0, 1): 1}
        right = [("holds", (1, (), (((0,), (0, 1), 1),))), ("holds", (HUGE, (), (((0,), (0, 1), HUGE),)))]
        wrong = [("holds", (1, (), (((0, 1), (0,), 1),))), ("holds", (1, (), (((), (0, 1), 1), ((), (0,), -1))))]
        check_judge(self, lambda value: is_inequality_answer((0, 1), total, value), right, wrong)
        right = [("holds", (1, (), ())), ("holds", (HUGE, (), ()))]
        check_judge(self, lambda value: is_inequality_answer((), {}, value), right,
                    [("holds", (0, (), ())), ("fails", {(): 0})])
        plain = {(0,): 2}
        right = [("holds", (1, (), (((), (0,), 2),))), ("holds", (1, (((0,), (1,), 1),),
                                                                  (((), (0,), 1), ((1,), (0, 1), 1))))]
        check_judge(self, lambda value: is_inequality_answer((0, 1), plain, value), right,
                    [("holds", (2, (), (((), (0,), 2),)))])


class WrongArgumentsTest(unittest.TestCase):
    LOT = (InvalidLot, WRONG_LOTS + ((0, 1, 2, 3, 4, 5),))
    SOME = (InvalidLot, WRONG_LOTS + ((3,), (0, 5), (0, 1, 2, 3)))
    TOTAL = (InvalidOperation, ODD[:8] + ODD[9:] + OBJECTS + BOOLS + LONG_NUMBERS + (
        0, (), {(): 0}, {(): 1, (0,): 1}, {(3,): 1}, {(1, 0): 1}, {(0,): True}, {(0,): None}, {(0,): "1"}, {(0,): LONG},
        {(0,): -LONG}, {(0,): LONGEST}, {(True,): 1}, {(False, 1): 1}, {None: 1}, {"0": 1}, {(0,): (1,)}, {0: 1},
        ((0,), 1), (((0,), 1),), {(0, 1, 2, 3): 1}, {(0,): 1, (5,): 0}, {((0,),): 1},
    ))
    RANK = (InvalidRank, ODD + OBJECTS + BOOLS + LONG_NUMBERS + (
        0, (), {(): 0}, step_rank((0, 1), (0,)), {**step_rank(ABC, ABC), ABC: 2}, {**step_rank(ABC, ABC), (): 1},
        {**step_rank(ABC, ABC), (0,): True}, {**step_rank(ABC, ABC), (3,): 1}, tuple(step_rank(ABC, ABC).items()),
    ))
    TRIPLES = ODD + OBJECTS + BOOLS + LONG_NUMBERS + (0, (0,), ((),), (((0,), (1,)),), (((0,), (1,), 1, 1),))

    def test_totals(self):
        total = ((self.LOT,), (self.TOTAL,))
        check_wrongs(self, inequality_answer, (ABC, {(0,): 1}), total)
        for value in (("holds", PAPER), None, {}):
            check_wrongs(self, is_inequality_answer, (ABC, {(0,): 1}, value), total + ((),))
        check_wrongs(self, value_at, (ABC, {(0,): 1}, step_rank(ABC, ABC)), total + ((self.RANK,),))
        for call in (greater_total, lesser_total):
            check_wrongs(self, call, (ABC, {(0,): 1}, (0, 1)), total + ((self.SOME,),))

    def test_made_sums(self):
        crossings = (InvalidOperation, self.TRIPLES + (
            (((1,), (0,), 1),), (((0,), (0, 1), 1),), (((), (0,), 1),), (((0,), (0,), 1),), (((0,), (1,), 0),),
            (((0,), (1,), -1),), (((0,), (1,), True),), (((0,), (1,), None),), [((0,), (1,), 1)], ([(0,), (1,), 1],),
            (((0,), (3,), 1),), (((0,), (1,), 1), ((0,), (1,), 2)), (((0,), (2,), 1), ((0,), (1,), 1)),
            (([0], (1,), 1),), (((False,), (1,), 1),), (((0,), (1,), "1"),),
        ))
        drops = (InvalidOperation, self.TRIPLES + (
            (((1,), (0,), 1),), (((0, 1), (0,), 1),), (((0,), (0,), 1),), (((), (), 1),), (((), (0,), 0),),
            (((), (0,), True),), (((), (0,), -HUGE),), (((), (3,), 1),), (((), (0,), 1), ((), (0,), 2)),
            (((), (1,), 1), ((), (0,), 1)), [((), (0,), 1)], (((), [0], 1),), ((None, (0,), 1),),
        ))
        right = (ABC, (((0,), (1,), 1),), (((), (0,), 1),))
        check_wrongs(self, made_sum, right, ((self.LOT,), (crossings,), (drops,)))

    def test_covers(self):
        lots = WRONG_LOTS + (((0,),) * 33, ((0,), (3,)), ((0,), (1, 0)), [(0,), (1,)], ((0,), None))
        # Of the values that are no lots two are tuples of lots.
        lots = (InvalidOperation, tuple(value for value in lots if value not in (((),), ((0,), (1,)))))
        weights = (InvalidOperation, ODD + OBJECTS + BOOLS + LONG_NUMBERS + (
            0, (), (1,), (1, 1, 1), (1, -1), (1, LONG), (1, True), (False, 1), [1, 1], (1, "1"), (1, None),
            {0: 1, 1: 1},
        ))
        k = (InvalidNumber, wrong_numbers(1))
        check_wrongs(self, cover_total, (ABC, ((0,), (1, 2)), (1, GREATEST), 1),
                     ((self.LOT,), (lots,), (weights,), (k,)))
        self.assertEqual(cover_total(ABC, ((0,),) * 32, (1,) * 32, 5), {(0,): 32, ABC: -5})
        refused(self, InvalidOperation, cover_total, (ABC, ((0,),) * 33, (1,) * 33, 5))
        refused(self, InvalidOperation, cover_total, (ABC, ((),), (), 5))

    def test_six_letters_are_too_many(self):
        refused(self, InvalidLot, inequality_answer, ((0, 1, 2, 3, 4, 5), {}))
        self.assertEqual(inequality_answer(FIVE, {})[0], "holds")


class NotTrueTest(unittest.TestCase):
    """[8.5]"""

    def test_steps_are_not_all_ranks(self):
        total = {some: (-1) ** (len(some) + 1) for some in all_lots(ABC)[1:]}
        self.assertTrue(all(value_at(ABC, total, step_rank(ABC, some)) >= 0 for some in all_lots(ABC)[1:]))
        self.assertEqual(value_at(ABC, total, parity_rank(ABC, ABC)), -1)
        self.assertEqual(inequality_answer(ABC, total)[0], "fails")

    def test_integers_that_add_up_to_nought(self):
        total = {(0,): 1, (1,): -1}
        self.assertEqual(value_at((0, 1), total, step_rank((0, 1), (1,))), -1)
        self.assertEqual(inequality_answer((0, 1), total)[0], "fails")


if __name__ == "__main__":
    unittest.main()
