"""Covers and packings [6.1] to [6.8], [0.14]: crestjoin.cover.covers."""

import random
import unittest
from fractions import Fraction
from itertools import product
from math import comb

from crestjoin.base.numbers import is_below
from crestjoin.cover.covers import (
    cover_answer, cover_bound, cover_corners, cover_or_packing, exponents_of, is_cover, is_cover_answer, is_packing,
    least_whole, packing_bound,
)
from crestjoin.errors import InvalidLot, InvalidNumber, InvalidOperation, TooMany
from crestjoin.exact.linear import corners
from crestjoin.table.joins import Question, answer
from crestjoin.table.tables import Table
from tests.support import (
    BOOLS, HUGE, LONG, LONGEST, LONG_NUMBERS, OBJECTS, ODD, WRONG_LOTS, all_lots, check_judge, check_wrongs, random_table,
    refused, wrong_numbers,
)

THREE = ((0, 1), (0, 2), (1, 2))
WHEEL = ((0, 1), (1, 2), (2, 3), (0, 3))
SIX = (0, 1, 2, 3, 4, 5)
WEBS = [THREE, WHEEL, (), ((),), ((), ()), ((0,),), ((0, 1), (1,), ()), ((0, 1), (0, 1)), ((2, 5), (5,), (2, 4)),
        ((0, 1, 2), (0, 3), (1, 3), (2, 3)), ((0, 1), (1, 2), (2, 3, 4), (0, 4))]


def some_webs(seed, times, letters, most):
    chance = random.Random(seed)
    lots = all_lots(letters)
    for _ in range(times):
        web = tuple(chance.choice(lots) for _ in range(chance.randint(0, most)))
        yield web, tuple(chance.choice((0, 1, 2, 3, 7, 20)) for _ in web)


CASES = [(web, exponents) for web in WEBS for exponents in ((2,) * len(web), (0,) * len(web), tuple(range(len(web))))]
CASES = CASES + list(some_webs(61, 60, (0, 1, 2, 3), 5))


def letters_of(lots):
    return sorted(set(letter for lot in lots for letter in lot))


def covers_plainly(lots, cover):
    return all(sum(weight for lot, weight in zip(lots, cover[1]) if letter in lot) >= cover[0]
               for letter in letters_of(lots))


def packs_plainly(lots, exponents, packing):
    D, numbers = packing
    return sorted(numbers) == letters_of(lots) and all(
        sum(numbers[letter] for letter in lot) <= D * exponent for lot, exponent in zip(lots, exponents))


def cover_cost(exponents, cover):
    return Fraction(sum(weight * exponent for weight, exponent in zip(cover[1], exponents)), cover[0])


def packing_cost(packing):
    return Fraction(sum(packing[1].values()), packing[0])


def pair(fraction):
    return (fraction.numerator, fraction.denominator)


def few_covers(lots):
    """All covers with small numbers."""
    tried = [(D, weights) for D in (1, 2, 3) for weights in product(range(4), repeat=len(lots))]
    return [cover for cover in tried if covers_plainly(lots, cover)]


def few_packings(lots, exponents):
    """All packings with small numbers."""
    letters = letters_of(lots)
    tried = [(D, dict(zip(letters, numbers))) for D in (1, 2) for numbers in product(range(4), repeat=len(letters))]
    return [packing for packing in tried if packs_plainly(lots, exponents, packing)]


class JudgeTest(unittest.TestCase):
    def test_is_cover(self):
        """[6.1]"""
        for lots in WEBS:
            right = few_covers(lots)
            tried = [(D, weights) for D in (1, 2) for weights in product((-1, 0, 1, 2), repeat=len(lots))]
            wrong = [value for value in tried if min(value[1], default=0) < 0 or not covers_plainly(lots, value)]
            many = len(lots)
            wrong += [(0, (1,) * many), (-1, (1,) * many), (1, (1,) * (many + 1)), (1, (None,) * (many + 1)), (1,),
                      (1, (1,) * many, 1), ("1", (1,) * many), ((1,) * many, 1), (1, {0: 1}), (1, ("1",) * (many + 1))]
            check_judge(self, lambda value, lots=lots: is_cover(lots, value), right[:20] + right[-5:], wrong)
            check_judge(self, lambda value, lots=lots: is_cover(lots, value), [(HUGE, (HUGE,) * many), (1, (HUGE,) * many)])
        self.assertIs(is_cover(THREE, (HUGE + 1, (HUGE,) * 3)), True)
        self.assertIs(is_cover(THREE, (2 * HUGE + 1, (HUGE,) * 3)), False)

    def test_is_packing(self):
        """[6.2]"""
        for lots, exponents in CASES[:36]:
            right = few_packings(lots, exponents)
            letters = letters_of(lots)
            tried = [(1, dict(zip(letters, numbers))) for numbers in product((-1, 0, 3, 4), repeat=len(letters))]
            wrong = [value for value in tried if min(value[1].values(), default=0) < 0
                     or not packs_plainly(lots, exponents, value)]
            none = dict.fromkeys(letters, 0)
            wrong += [(0, none), (-1, none), (1, {**none, 9: 0}), (1, {**none, "0": 0}), (1, {**none, None: 0}), (1,),
                      (1, none, 0), (1, tuple(none.values())), (1, {**none, (0,): 0}), ("1", none), (none, 1),
                      (1, [0] * len(letters)), (1, {**none, HUGE: 0})]
            if letters:
                wrong += [(1, {letter: 0 for letter in letters[1:]}), (1, {**none, letters[0]: None}),
                          (1, {**none, letters[0]: "0"}), (1, {**none, letters[0]: (0,)}), (1, {**none, letters[0]: HUGE})]
            check_judge(self, lambda value: is_packing(lots, exponents, value), right[:20] + right[-5:], wrong)
            check_judge(self, lambda value: is_packing(lots, exponents, value), [(HUGE, none)])
        self.assertIs(is_packing(THREE, (2, 2, 2), (HUGE, {0: HUGE, 1: HUGE, 2: HUGE})), True)
        self.assertIs(is_packing(THREE, (2, 2, 2), (HUGE, {0: HUGE + 1, 1: HUGE, 2: HUGE})), False)

    def test_is_cover_answer(self):
        least = ("least", (3, 1), (2, (1, 1, 1)), (1, {0: 1, 1: 1, 2: 1}))
        right = [least, ("least", (3, 1), (2 * HUGE, (HUGE,) * 3), (HUGE, {0: HUGE, 1: HUGE, 2: HUGE}))]
        wrong = [least[:3], least + (0,), ("most",) + least[1:], (None,) + least[1:], ("least", (6, 2)) + least[2:],
                 ("least", (4, 1), (1, (1, 1, 0)), least[3]), ("least", (2, 1), least[2], (1, {0: 1, 1: 1, 2: 0})),
                 ("least", (4, 1), (1, (1, 1, 0)), (1, {0: 2, 1: 0, 2: 0})), ("least", 3) + least[2:],
                 ("least", (3,)) + least[2:], ("least", (3, 1, 1)) + least[2:], ("least", [3, 1]) + least[2:],
                 ("least", None) + least[2:], ("least", (3, 1), least[3], least[2]), ("least", (-3, -1)) + least[2:],
                 ("least", (3, 1), (2, (1, 1, 0)), least[3]), ("least", (3, 1), least[2], (1, {0: 1, 1: 1, 2: 2})),
                 ("least", (3, 1), least[2], None), ("least", ("3", 1)) + least[2:], ("least", (2, 1)) + least[2:]]
        check_judge(self, lambda value: is_cover_answer(THREE, (2, 2, 2), value), right, wrong)
        none = ("least", (0, 1), (1, (4,)), (3, {}))
        check_judge(self, lambda value: is_cover_answer(((),), (0,), value), [none], [("least", (0, 3)) + none[2:]])
        check_judge(self, lambda value: is_cover_answer((), (), value), [("least", (0, 1), (1, ()), (HUGE, {}))])


class BoundsTest(unittest.TestCase):
    def test_bounds_of_covers_and_packings(self):
        for lots, exponents in CASES:
            for cover in few_covers(lots)[::7] + [(HUGE, (2 * HUGE,) * len(lots))]:
                self.assertEqual(cover_bound(lots, exponents, cover), pair(cover_cost(exponents, cover)))
            for packing in few_packings(lots, exponents)[::3]:
                self.assertEqual(packing_bound(lots, exponents, packing), pair(packing_cost(packing)))
        self.assertEqual(packing_bound(THREE, (2, 2, 2), (HUGE, {0: HUGE, 1: HUGE, 2: 0})), (2, 1))

    def test_never_below(self):
        """[6.3]"""
        for lots, exponents in CASES[:50]:
            least = min(cover_cost(exponents, cover) for cover in few_covers(lots))
            greatest = max(packing_cost(packing) for packing in few_packings(lots, exponents))
            self.assertLessEqual(greatest, least)

    def test_they_meet(self):
        """[6.4]"""
        for lots, exponents in CASES + list(some_webs(62, 60, SIX, 12)):
            value = cover_answer(lots, exponents)
            tag, bound, cover, packing = value
            self.assertEqual(tag, "least")
            self.assertTrue(covers_plainly(lots, cover) and packs_plainly(lots, exponents, packing))
            self.assertTrue(min(cover[1], default=0) >= 0 and min(packing[1].values(), default=0) >= 0)
            self.assertEqual(list(packing[1]), letters_of(lots))
            self.assertEqual(bound, pair(cover_cost(exponents, cover)))
            self.assertEqual(bound, pair(packing_cost(packing)))
            self.assertIs(is_cover(lots, cover) and is_packing(lots, exponents, packing), True)
            check_judge(self, lambda value: is_cover_answer(lots, exponents, value), [value])
            if len(lots) < 5:
                self.assertTrue(all(cover_cost(exponents, other) >= Fraction(*bound) for other in few_covers(lots)))

    def test_either_or(self):
        """[6.4], [0.14]"""
        for lots, exponents in CASES:
            least = Fraction(*cover_answer(lots, exponents)[1])
            for p, D in ((0, 1), (1, 1), (3, 2), (5, 2), (3, 1), (2, 3), (7, 2), (40, 1), (LONG - 1, LONG - 1), (9, LONG - 1)):
                tag, value = cover_or_packing(lots, exponents, p, D)
                self.assertEqual(tag, "cover" if least <= Fraction(p, D) else "packing")
                if tag == "cover":
                    self.assertTrue(covers_plainly(lots, value) and cover_cost(exponents, value) <= Fraction(p, D))
                else:
                    self.assertTrue(packs_plainly(lots, exponents, value) and packing_cost(value) > Fraction(p, D))

    def test_what_it_says_of_rows(self):
        """[6.5]"""
        chance = random.Random(65)
        for lots in (THREE, WHEEL, ((0, 1, 2), (0, 3), (1, 3), (2, 3)), ((0,), (0, 1), ())):
            for exponents in product((0, 1, 2, 3), repeat=len(lots)):
                parts = tuple(random_table(chance, lot, (0, 1, 2), 2 ** k) for lot, k in zip(lots, exponents))
                rows = len(answer(Question(tuple(letters_of(lots)), parts)))
                self.assertTrue(is_below(rows, cover_answer(lots, exponents)[1]))

    def test_full_tables_of_packings(self):
        """[6.5]"""
        for lots, exponents in CASES[:40]:
            for packing in few_packings(lots, exponents)[::9]:
                if packing[0] == 1 and sum(packing[1].values()) <= 8:
                    parts = [Table(lot, tuple(product(*[range(2 ** packing[1][letter]) for letter in lot])))
                             for lot in lots]
                    for part, exponent in zip(parts, exponents):
                        self.assertLessEqual(len(part), 2 ** exponent)
                    whole = answer(Question(tuple(letters_of(lots)), tuple(parts)))
                    self.assertEqual(len(whole), 2 ** packing_bound(lots, exponents, packing)[0])


class WholeTest(unittest.TestCase):
    def test_whole_covers_by_trying_all(self):
        """[6.6]"""
        for lots, exponents in CASES + list(some_webs(66, 40, SIX, 9)):
            found = []
            for taken in product((0, 1), repeat=len(lots)):
                if covers_plainly(lots, (1, taken)):
                    places = tuple(place for place, one in enumerate(taken) if one)
                    found.append((sum(exponents[place] for place in places), places))
            self.assertEqual(least_whole(lots, exponents), min(found))
            self.assertGreaterEqual(least_whole(lots, exponents)[0], Fraction(*cover_answer(lots, exponents)[1]))

    def test_the_three_ring(self):
        self.assertEqual(least_whole(THREE, (2, 2, 2)), (4, (0, 1)))
        self.assertEqual(cover_answer(THREE, (2, 2, 2))[1], (3, 1))

    def test_the_first_in_sequence(self):
        self.assertEqual(least_whole(((), (0,)), (0, 3)), (3, (0, 1)))
        self.assertEqual(least_whole(((0,), (0,), (0,)), (3, 2, 2)), (2, (1,)))
        self.assertEqual(least_whole((), ()), (0, ()))
        self.assertEqual(least_whole((SIX,) * 12, (20,) * 12), (20, (0,)))


class CornersTest(unittest.TestCase):
    def test_for_each_exponents_one_of_them_is_least(self):
        """[6.7]"""
        for lots in WEBS:
            found = cover_corners(lots)
            self.assertEqual(list(found), sorted(found))
            self.assertTrue(all(covers_plainly(lots, cover) for cover in found))
            rows = tuple(tuple(int(letter in lot) for lot in lots) for letter in letters_of(lots))
            self.assertEqual(found, corners(rows, (1,) * len(rows), len(lots)))
            for exponents in list(product((0, 1, 3, 20), repeat=len(lots)))[::5]:
                least = min(cover_cost(exponents, cover) for cover in found)
                self.assertEqual(cover_answer(lots, exponents)[1], pair(least))

    def test_edges(self):
        self.assertEqual(cover_corners(()), ((1, ()),))
        self.assertEqual(cover_corners(((), ())), ((1, (0, 0)),))
        self.assertEqual(cover_corners(THREE), ((1, (0, 1, 1)), (1, (1, 0, 1)), (1, (1, 1, 0)), (2, (1, 1, 1))))

    def test_choices_that_are_let_and_one_more(self):
        self.assertEqual((comb(16, 12), comb(17, 12), comb(15, 9), comb(16, 10)), (1820, 6188, 5005, 8008))
        four = ((0, 1), (1, 2), (2, 3), (0, 3)) * 3
        self.assertEqual(len(cover_corners(four)), len(corners(tuple(tuple(int(x in lot) for lot in four)
                                                                       for x in (0, 1, 2, 3)), (1,) * 4, 12)))
        refused(self, TooMany, cover_corners, (four[:11] + ((3, 4),),), 5000)
        refused(self, TooMany, cover_corners, ((SIX,) * 9,), 5000)
        self.assertEqual(len(cover_corners((SIX,) * 8)), 8)

    def test_exponents_of(self):
        for size in list(range(70)) + [2 ** 20, 2 ** 20 - 1, 2 ** 19, 2 ** 19 + 1]:
            self.assertEqual(exponents_of((size, 1)), (next(k for k in range(21) if 2 ** k >= size), 0))
        self.assertEqual(exponents_of(()), ())
        self.assertEqual(exponents_of((2 ** 20,) * 12), (20,) * 12)


class WrongArgumentsTest(unittest.TestCase):
    KINDS = ODD + OBJECTS + BOOLS + LONG_NUMBERS
    LOTS = (InvalidLot, KINDS + tuple(((0, 1), value, (1, 2)) for value in WRONG_LOTS) + (
        0, (0,), (0, 1), [(0, 1)], ((),) * 13, ((0, 1),) * 13))
    EXPONENTS = (InvalidOperation, KINDS + (
        0, (), (2,), (2, 2), (2, 2, 2, 2), [2, 2, 2], (2, 2, 21), (2, -1, 2), (2, True, 2), (2, None, 2), (2, "2", 2),
        (2, (2,), 2), (2, LONGEST, 2), {0: 2, 1: 2, 2: 2}))
    COVERS = (InvalidOperation, KINDS + (
        0, (), (1, (1, 1)), (1, (1, 0, 0)), (2, (1, 1, 0)), (0, (1, 1, 1)), (1, (1, 1, -1)), (True, (1, 1, 1)),
        (1, (1, 1, 1, 1)), (1, [1, 1, 1]), (1, (True, 1, 1)), (1, (1, 1, 1), 1)))
    PACKINGS = (InvalidOperation, KINDS + (
        0, (), (1, {}), (1, {0: 1, 1: 1}), (1, {0: 2, 1: 1, 2: 0}), (0, {0: 0, 1: 0, 2: 0}), (1, {0: 0, 1: 0, 2: -1}),
        (True, {0: 0, 1: 0, 2: 0}), (1, {False: 0, 1: 0, 2: 0}), (1, {0: 0, 1: 0, 2: 0, 3: 0}), (1, (0, 0, 0)),
        (1, {0: 0, 1: 0, 2: False})))

    def test_lots_and_exponents(self):
        pairs = ((self.LOTS,), (self.EXPONENTS,))
        right = (THREE, (2, 2, 2))
        for call in (cover_answer, least_whole):
            check_wrongs(self, call, right, pairs)
        check_wrongs(self, cover_corners, (THREE,), ((self.LOTS,),))
        for value in (None, (1, (1, 1, 1)), (1, {0: 1, 1: 1, 2: 1}), cover_answer(*right)):
            check_wrongs(self, is_cover, (THREE, value), ((self.LOTS,), ()))
            check_wrongs(self, is_packing, right + (value,), pairs + ((),))
            check_wrongs(self, is_cover_answer, right + (value,), pairs + ((),))
        self.assertEqual(cover_answer((SIX,) * 12, (20,) * 12)[1], (20, 1))
        refused(self, InvalidOperation, cover_answer, ((), (0,)))

    def test_covers_and_packings(self):
        pairs = ((self.LOTS,), (self.EXPONENTS,))
        right = (THREE, (2, 2, 2))
        check_wrongs(self, cover_bound, right + ((1, (1, 1, 1)),), pairs + ((self.COVERS,),))
        check_wrongs(self, packing_bound, right + ((1, {0: 1, 1: 1, 2: 1}),), pairs + ((self.PACKINGS,),))

    def test_bounds(self):
        p, D = (InvalidNumber, wrong_numbers(0)), (InvalidNumber, wrong_numbers(1))
        right = (THREE, (2, 2, 2), 3, 1)
        check_wrongs(self, cover_or_packing, right, ((self.LOTS,), (self.EXPONENTS,), (p,), (D,)))

    def test_sizes(self):
        sizes = (InvalidOperation, self.KINDS + (
            0, [1], (-1,), (2 ** 20 + 1,), (1,) * 13, (1, True), (1, None), (LONG,), ((1,),), ("1",), {0: 1}))
        check_wrongs(self, exponents_of, ((1, 2),), ((sizes,),))


class NotTrueTest(unittest.TestCase):
    """[6.8]"""

    def test_a_least_cover_can_have_a_weight_above_its_bottom(self):
        value = ("least", (0, 1), (1, (5,)), (1, {0: 0}))
        self.assertIs(is_cover_answer(((0,),), (0,), value), True)

    def test_of_two_lots_within_one_another_both_can_need_a_weight(self):
        lots, exponents = ((0,), (0, 1, 3), (1, 2), (2, 3)), (1, 3, 4, 4)
        self.assertEqual(cover_answer(lots, exponents)[1], (6, 1))
        for rest in (lots[1:], lots[:1] + lots[2:]):
            prices = tuple(exponents[lots.index(lot)] for lot in rest)
            self.assertGreater(Fraction(*cover_answer(rest, prices)[1]), 6)

    def test_a_lot_with_exponent_nought_cannot_be_left_out(self):
        self.assertEqual(cover_answer(((0,), (0,)), (0, 3))[1], (0, 1))
        self.assertEqual(cover_answer(((0,),), (3,))[1], (3, 1))


if __name__ == "__main__":
    unittest.main()
