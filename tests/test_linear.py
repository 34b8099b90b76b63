"""Linear programs [5.1] to [5.6], [0.14]: crestjoin.exact.linear."""

import random
import unittest
from fractions import Fraction
from itertools import combinations, product
from math import comb, gcd

from crestjoin.errors import InvalidNumber, InvalidOperation, TooMany
from crestjoin.exact import linear
from crestjoin.exact.linear import corners, does_fit, is_corner, is_linear, is_point, linear_answer, value_of
from tests.support import (
    BOOLS, GREATEST, HUGE, LONG, LONGEST, LONG_NUMBERS, OBJECTS, ODD, check_judge, check_wrongs, refused,
    wrong_numbers,
)

RING = ((1, 1, 0), (0, 1, 1), (1, 0, 1))


def some_programs(seed, times, columns, rows, greatest):
    """Programs (rows, sides, costs) from a chance that is the same in each run."""
    chance = random.Random(seed)
    for at in range(times):
        many, height = chance.randint(0, columns), chance.randint(0, rows)
        blank = chance.random()

        def number():
            return 0 if chance.random() < blank else chance.randint(-greatest, greatest)

        body = tuple(tuple(number() for _ in range(many)) for _ in range(height))
        sides = tuple(number() if at % 2 else -abs(number()) for _ in range(height))
        yield body, sides, tuple(number() if at % 3 else abs(number()) for _ in range(many))


SMALL = list(some_programs(51, 250, 3, 4, 2))


def times(one, other):
    return sum(left * right for left, right in zip(one, other))


def column(rows, at):
    return [row[at] for row in rows]


def fits(rows, sides, point):
    under, x = point
    return min(x, default=0) >= 0 and all(times(row, x) >= under * side for row, side in zip(rows, sides))


def is_tuple_of_whole(value, many):
    return type(value) is tuple and len(value) == many and all(type(n) is int and n >= 0 for n in value)


def is_some_point(value, many):
    whole = type(value) is tuple and len(value) == 2 and type(value[0]) is int and value[0] >= 1
    return whole and is_tuple_of_whole(value[1], many)


def is_told(rows, sides, costs, value):
    """Whether a value is one of [5.2], by the words of the document."""
    if value[0] == "none":
        y = value[1]
        return is_tuple_of_whole(y, len(rows)) and times(y, sides) > 0 and all(
            times(y, column(rows, at)) <= 0 for at in range(len(costs)))
    if not is_some_point(value[1], len(costs)) or not fits(rows, sides, value[1]):
        return False
    if value[0] == "endless":
        way = value[2]
        return is_tuple_of_whole(way, len(costs)) and times(way, costs) < 0 and all(times(way, row) >= 0 for row in rows)
    y = value[2]
    return is_some_point(y, len(rows)) and all(
        times(y[1], column(rows, at)) <= y[0] * costs[at] for at in range(len(costs))
    ) and Fraction(times(costs, value[1][1]), value[1][0]) == Fraction(times(sides, y[1]), y[0])


def solved(lines, many):
    """The only solution of equations (numbers, side), by fractions; None if there is none, or more than one."""
    left = [[Fraction(n) for n in numbers] + [Fraction(side)] for numbers, side in lines]
    done = []
    for at in range(many):
        lead = next((line for line in left if line[at] != 0), None)
        if lead is None:
            return None
        left.remove(lead)
        lead = [n / lead[at] for n in lead]
        left = [[n - line[at] * m for n, m in zip(line, lead)] for line in left]
        done = [[n - line[at] * m for n, m in zip(line, lead)] for line in done] + [lead]
    return [line[-1] for line in done] if all(line[-1] == 0 for line in left) else None


def plain_corners(rows, sides, many):
    """All corners, by solving each choice of equations."""
    lines = [(row, side) for row, side in zip(rows, sides)]
    lines += [(tuple(int(at == place) for place in range(many)), 0) for at in range(many)]
    found = set()
    for chosen in combinations(lines, many):
        x = solved(chosen, many)
        if x is not None and min(x, default=0) >= 0 and all(times(row, x) >= side for row, side in zip(rows, sides)):
            under = 1
            for n in x:
                under = under * n.denominator // gcd(under, n.denominator)
            found.add((under, tuple(int(n * under) for n in x)))
    return tuple(sorted(found))


def in_other_terms(value):
    """The same answer with all its points and ways taken many times."""
    def more(part, by):
        if type(part) is tuple and len(part) == 2 and type(part[1]) is tuple:
            return (part[0] * by, tuple(n * by for n in part[1]))
        return tuple(n * by for n in part)
    return (value[0],) + tuple(more(part, by) for part, by in zip(value[1:], (6, HUGE)))


class AnswerTest(unittest.TestCase):
    def test_constants(self):
        self.assertEqual((linear.MOST_COLUMNS, linear.MOST_ROWS, linear.MOST_CHOICES), (12, 24, 5000))

    def test_answers_by_their_own_sums(self):
        """[5.2]: what is told, and by corners that it is the one of three."""
        seen = set()
        for rows, sides, costs in SMALL:
            value = linear_answer(rows, sides, costs)
            seen.add(value[0])
            self.assertTrue(is_told(rows, sides, costs, value), (rows, sides, costs, value))
            self.assertIs(is_linear(rows, sides, costs, value), True)
            found = plain_corners(rows, sides, len(costs))
            self.assertEqual(value[0] == "none", found == ())
            if value[0] == "least":
                least = min(Fraction(times(costs, x), under) for under, x in found)
                self.assertEqual(Fraction(times(costs, value[1][1]), value[1][0]), least)
        self.assertEqual(seen, {"least", "none", "endless"})

    def test_greatest_programs(self):
        for greatest, seed in ((1, 5), (3, 6), (GREATEST, 7)):
            for rows, sides, costs in some_programs(seed, 120, 12, 24, greatest):
                self.assertTrue(is_told(rows, sides, costs, linear_answer(rows, sides, costs)))
        chance = random.Random(8)
        for greatest in (2, GREATEST):
            for _ in range(20):
                rows = tuple(tuple(chance.randint(0, greatest) for _ in range(12)) for _ in range(24))
                sides, costs = (tuple(chance.randint(1, greatest) for _ in range(many)) for many in (24, 12))
                value = linear_answer(rows, sides, costs)
                self.assertTrue(is_told(rows, sides, costs, value) and value[0] == "least")

    def test_programs_on_which_exchanges_can_go_round(self):
        beale = (((-1, 32, 4, -36), (-2, 24, 1, -6), (0, 0, -1, 0)), (0, 0, -1), (-3, 80, -2, 24))
        kuhn = (((2, 9, -1, -9), (-1, -3, 1, 6), (-2, -3, 1, 12)), (0, 0, -2), (-2, -3, 1, 12))
        for rows, sides, costs in (beale, kuhn):
            self.assertTrue(is_told(rows, sides, costs, linear_answer(rows, sides, costs)))

    def test_cubes_with_many_corners(self):
        for many in range(1, 13):
            rows = tuple(tuple(-2 ** (at - place + 1) if place < at else -(place == at) for place in range(many))
                         for at in range(many))
            sides = tuple(-min(5 ** (at + 1), GREATEST) for at in range(many))
            costs = tuple(-2 ** (many - 1 - at) for at in range(many))
            for turn in (1, -1):
                program = (tuple(row[::turn] for row in rows), sides, costs[::turn])
                value = linear_answer(*program)
                self.assertTrue(value[0] == "least" and is_told(*program, value))

    def test_ways_along_which_just_one_row_is_left(self):
        for program in ((((-2, 2), (-1, 0)), (0, -2), (-2, -2)), (((-2, 1), (-2, 1), (-1, 0)), (2, 0, -2), (-1, -2)),
                        (((-2, 1, 1), (1, -1, 1), (-2, 0, 1)), (1, 1, 1), (-2, -1, 2))):
            value = linear_answer(*program)
            self.assertTrue(value[0] == "endless" and is_told(*program, value))

    def test_edges(self):
        self.assertEqual(linear_answer((), (), ())[0], "least")
        self.assertEqual(linear_answer((), (), (0, 1))[0], "least")
        self.assertEqual(linear_answer((), (), (0, -1))[0], "endless")
        self.assertEqual(linear_answer(((),), (0,), ())[0], "least")
        self.assertEqual(linear_answer(((), ()), (-5, 1), ())[0], "none")
        self.assertEqual(linear_answer(((GREATEST,),), (GREATEST,), (-GREATEST,))[0], "endless")
        self.assertEqual(linear_answer(((-GREATEST,),), (-GREATEST,), (-GREATEST,))[0], "least")
        self.assertEqual(linear_answer(((-1, 0), (1, 0)), (0, 1), (0, -1))[0], "none")
        self.assertEqual(linear_answer(((0,) * 12,) * 24, (0,) * 24, (0,) * 12)[0], "least")

    def test_never_two(self):
        """[5.3]: no fitting point has costs below the sides of a y, and no paper of one of three stands by another."""
        chance = random.Random(53)
        for rows, sides, costs in SMALL:
            value = linear_answer(rows, sides, costs)
            points = [(2, x) for x in product(range(5), repeat=len(costs)) if fits(rows, sides, (2, x))]
            prices = [(2, y) for y in product(range(4), repeat=len(rows)) if all(
                times(y, column(rows, at)) <= 2 * costs[at] for at in range(len(costs)))]
            for x in chance.sample(points, min(20, len(points))):
                for y in chance.sample(prices, min(20, len(prices))):
                    self.assertGreaterEqual(times(costs, x[1]), times(sides, y[1]))
            if value[0] == "none":
                self.assertEqual(points, [])
            if value[0] == "endless":
                self.assertEqual(prices, [])
                far = tuple(n + 1000 * value[1][0] * m for n, m in zip(value[1][1], value[2]))
                self.assertTrue(fits(rows, sides, (value[1][0], far)))
                self.assertLess(times(costs, far), times(costs, value[1][1]))

    def test_tight(self):
        """[5.4]"""
        for rows, sides, costs in SMALL:
            value = linear_answer(rows, sides, costs)
            if value[0] == "least":
                (E, x), (F, y) = value[1:]
                for row, side, price in zip(rows, sides, y):
                    self.assertTrue(price == 0 or times(row, x) == E * side)
                for at, number in enumerate(x):
                    self.assertTrue(number == 0 or times(y, column(rows, at)) == F * costs[at])


class JudgeTest(unittest.TestCase):
    def test_is_point(self):
        right = [(1, ()), (4, (2, 2, 2)), (HUGE, (-HUGE, 0)), (1, (-1,)), (GREATEST + 1, (1,) * 50)]
        wrong = [(0, ()), (-1, (1,)), (1,), (1, 1), (1, (1,), 1), ((1,), 1), (1, (None,)), (1, ("1",)), (1, {1: 1}),
                 ("1", (1,)), (None, ()), (1, ((1,),)), (1, (True,)), (True, (2,))]
        check_judge(self, is_point, right, wrong)

    def test_does_fit(self):
        for rows, sides, costs in SMALL[:60]:
            def judge(value):
                return does_fit(rows, sides, len(costs), value)
            points = [(under, x) for under in (1, 2) for x in product(range(-1, 4), repeat=len(costs))]
            right = [point for point in points if fits(rows, sides, point)]
            check_judge(self, judge, right[:12], [point for point in points if not fits(rows, sides, point)])
            for under, x in right[:5]:
                check_judge(self, judge, [(under * HUGE, tuple(n * HUGE for n in x))], [(under, x + (0,))])
        self.assertIs(does_fit((), (), 0, (1, ())), True)
        self.assertIs(does_fit(((),), (1,), 0, (1, ())), False)

    def test_is_linear_takes_all_terms(self):
        for rows, sides, costs in SMALL[:120]:
            value = linear_answer(rows, sides, costs)
            check_judge(self, lambda value: is_linear(rows, sides, costs, value), [value, in_other_terms(value)])

    def test_is_linear_of_near_values(self):
        """Each value near an answer is judged as the words of the document judge it."""
        for rows, sides, costs in SMALL[:120]:
            value = linear_answer(rows, sides, costs)
            for near in near_values(value):
                told = is_told(rows, sides, costs, near)
                self.assertIs(is_linear(rows, sides, costs, near), told, (rows, sides, costs, near))

    def test_is_linear_of_other_forms(self):
        program = (RING, (1, 1, 1), (1, 1, 1))
        least = ("least", (4, (2, 2, 2)), (2, (1, 1, 1)))
        wrong = [least[:2], least + (0,), ("none",) + least[1:], ("endless",) + least[1:], ("none", (1, 1, 1)),
                 ("most",) + least[1:], (0,) + least[1:], ("least", (4, (2, 2)), least[2]), ("least", least[1], (2, (1, 1))),
                 ("least", least[1], (1, 1, 1)), ("least", least[1], (2, (1, 1, "1"))), ("least", None, None),
                 ("least", (0, (2, 2, 2)), least[2]), ("least", least[1], (0, (0, 0, 0))), ("none", None), ("endless",),
                 ("least", least[1], (2, (1, 1, 1, 0))), ("least", (2, (1, 1, 2)), least[2]), ("least", least[1], (2, (1, 1, 0))), ("none", ()), ("least",),
                 (("least",),) + least[1:], ("least", (4, (2, 2, 2, 0)), least[2]), ("Least",) + least[1:]]
        check_judge(self, lambda value: is_linear(*program, value), [least, ("least", (2, (1, 1, 1)), (6, (3, 3, 3)))], wrong)
        check_judge(self, lambda value: is_linear(((1,), (-1,)), (3, -2), (0,), value), [("none", (1, 1)), ("none", (7, 7))],
                    [("none", (1, 2)), ("none", (-1, -1)), ("none", (0, 0)), ("none", (1,)), ("none", (1, 1, 0)),
                     ("none", (1, 1), 0), ("none", [1, 1]), ("none", (1, "1")), ("least", (1, 1)), ("some", (1, 1))])
        check_judge(self, lambda value: is_linear(((1, -1),), (0,), (-1, 0), value),
                    [("endless", (1, (0, 0)), (1, 1)), ("endless", (9, (5, 2)), (HUGE, 3))],
                    [("endless", (1, (0, 0)), (0, 0)), ("endless", (1, (0, 1)), (1, 1)), ("endless", (1, (0, 0)), (1, 2)),
                     ("endless", (1, (0, 0)), (1,)), ("endless", (1, (0, 0)), (-1, -1)), ("endless", (1, (0, 0)))])

    def test_value_of(self):
        for costs in product((-2, 0, 3), repeat=2):
            for x in product((-1, 0, 2, HUGE), repeat=2):
                for under in (1, 2, 6, HUGE):
                    plain = Fraction(times(costs, x), under)
                    self.assertEqual(value_of(costs, (under, x)), (plain.numerator, plain.denominator))
        self.assertEqual(value_of((), (7, ())), (0, 1))

    def test_is_corner(self):
        for rows, sides, costs in SMALL[:80]:
            many = len(costs)
            found = plain_corners(rows, sides, many)

            def judge(value):
                return is_corner(rows, sides, many, value)
            points = [(2, x) for x in product(range(5), repeat=many)]
            lowest = set(tuple(Fraction(n, under) for n in x) for under, x in found)
            wrong = [point for point in points if tuple(Fraction(n, 2) for n in point[1]) not in lowest]
            check_judge(self, judge, found + tuple((under * 6, tuple(n * 6 for n in x)) for under, x in found), wrong)
            for under, x in found:
                check_judge(self, judge, [(under * HUGE, tuple(n * HUGE for n in x))], [(under, x + (0,)), (0, x), x])


def near_values(value):
    """Values with one integer of one part changed by one or by much."""
    found = []
    for place in range(1, len(value)):
        part = value[place]
        flat = (part[0],) + part[1] if len(part) == 2 and type(part[1]) is tuple else part
        for at in range(len(flat)):
            for change in (-1, 1, 7, HUGE, -HUGE):
                new = flat[:at] + (flat[at] + change,) + flat[at + 1:]
                found.append(value[:place] + (new if flat is part else (new[0], new[1:]),) + value[place + 1:])
    return found


class CornersTest(unittest.TestCase):
    def test_corners_by_solving_all_choices(self):
        """[5.5]"""
        for rows, sides, costs in SMALL:
            self.assertEqual(corners(rows, sides, len(costs)), plain_corners(rows, sides, len(costs)))

    def test_greater_ones(self):
        for rows, sides, costs in some_programs(57, 40, 5, 6, 9):
            self.assertEqual(corners(rows, sides, len(costs)), plain_corners(rows, sides, len(costs)))

    def test_corners_in_least_terms_that_fit(self):
        for rows, sides, costs in some_programs(55, 60, 4, 6, GREATEST):
            for under, x in corners(rows, sides, len(costs)):
                self.assertTrue(fits(rows, sides, (under, x)))
                self.assertEqual(gcd(under, *x), 1)
                self.assertTrue(is_corner(rows, sides, len(costs), (under, x)))

    def test_some_corner_is_least(self):
        """[5.5]"""
        for rows, sides, costs in some_programs(56, 200, 4, 5, 3):
            value = linear_answer(rows, sides, costs)
            found = corners(rows, sides, len(costs))
            self.assertEqual(found == (), value[0] == "none")
            if value[0] == "least":
                self.assertIn(value_of(costs, value[1]), [value_of(costs, corner) for corner in found])

    def test_edges(self):
        self.assertEqual(corners((), (), 0), ((1, ()),))
        self.assertEqual(corners(((), ()), (0, -1), 0), ((1, ()),))
        self.assertEqual(corners(((), ()), (0, 1), 0), ())
        self.assertEqual(corners((), (), 12), ((1, (0,) * 12),))
        self.assertEqual(corners(((1,),) * 24, (2,) * 24, 1), ((1, (2,)),))

    def test_choices_that_are_let_and_one_more(self):
        self.assertEqual(comb(16, 12), 1820)
        rows = tuple(tuple(int(at == place) for place in range(12)) for at in range(4))
        self.assertEqual(corners(rows, (1, 2, 3, 4), 12), ((1, (1, 2, 3, 4) + (0,) * 8),))
        for many in range(13):
            for height in range(25):
                rows, sides = ((1,) * many,) * height, (0,) * height
                if comb(many + height, many) > 5000:
                    refused(self, TooMany, corners, (rows, sides, many), 5000)
        self.assertEqual(corners(((1, 1, 1),) * 24, (3,) * 24, 3)[-1], (1, (3, 0, 0)))
        tall = tuple((at, 1, 12 - at, at * at) for at in range(12))
        self.assertEqual(corners(tall, (60,) * 12, 4), plain_corners(tall, (60,) * 12, 4))


class WrongArgumentsTest(unittest.TestCase):
    KINDS = ODD + OBJECTS + BOOLS + LONG_NUMBERS
    ROWS = (InvalidOperation, KINDS + (
        0, (1, 1), ((1,),), ((1, 1), (1,)), ((1, 1, 1),), ((1, LONG),), ((1, True),), ((1, None),), [(1, 1)], ([1, 1],),
        ((1, 1), (1, 1)), ((1, LONGEST),), (((1,), 1),), ((1, "1"),), ((1, 1),) * 25,
    ))
    SIDES = (InvalidOperation, KINDS + (0, (), (1, 1), (LONG,), [1], (-LONG,), ((1,),), ("1",), (1, None)))
    COSTS = (InvalidOperation, KINDS + (0, (), (1,), (1, 1, 1), [1, 1], (1, LONG), (True, 1), (1, None), (1, (1,)), {0: 1}))
    MANY = (InvalidNumber, wrong_numbers(0, 12))
    RIGHT = (((1, 1),), (1,))

    def test_programs(self):
        check_wrongs(self, linear_answer, self.RIGHT + ((1, 1),), ((self.ROWS,), (self.SIDES,), (self.COSTS,)))
        judged = self.RIGHT + ((1, 1), ("none", (1,)))
        for value in (judged[3], None, ("least", (1, (1, 0)), (1, (1,)))):
            check_wrongs(self, is_linear, judged[:3] + (value,), ((self.ROWS,), (self.SIDES,), (self.COSTS,), ()))
        refused(self, InvalidOperation, linear_answer, ((), (), (0,) * 13))
        refused(self, InvalidOperation, linear_answer, (((0,) * 13,), (0,), (0,) * 13))
        self.assertEqual(linear_answer(((1,),) * 24, (1,) * 24, (1,))[0], "least")
        refused(self, InvalidOperation, linear_answer, (((1,),) * 25, (1,) * 25, (1,)))

    def test_many_is_looked_at_first(self):
        judges = [(call, (value,)) for call in (does_fit, is_corner) for value in ((1, (1, 1)), None, (1, (0, 1)))]
        for call, more in judges + [(corners, ())]:
            def told(many, rows, sides, *value):
                return call(rows, sides, many, *value)
            wrongs = ((self.MANY,), (self.ROWS,), (self.SIDES,)) + ((),) * len(more)
            check_wrongs(self, told, (2,) + self.RIGHT + more, wrongs)
            refused(self, InvalidOperation, told, (3,) + self.RIGHT + more)
            refused(self, InvalidOperation, told, (1,) + self.RIGHT + more)
        refused(self, InvalidNumber, corners, (((1,) * 13,) * 24, (1,) * 24, 13), 13)

    def test_value_of(self):
        points = (InvalidOperation, self.KINDS + (
            0, (), (1,), (1, ()), (1, (1,)), (1, (1, 1, 1)), (0, (1, 1)), (-1, (1, 1)), (True, (1, 1)), (1, (True, 1)),
            [1, (1, 1)], (1, [1, 1]), (1, (1, None)), ("1", (1, 1)), (1, (1, 1), 1),
        ))
        costs = (InvalidOperation, self.COSTS[1] + ((0,) * 13,))
        check_wrongs(self, value_of, ((1, 1), (1, (1, 1))), ((costs,), (points,)))
        refused(self, InvalidOperation, value_of, ((0,) * 13, (1, (0,) * 13)))


class NotTrueTest(unittest.TestCase):
    """[5.6]"""

    def test_a_least_point_need_not_be_a_corner(self):
        program = (((1, 1),), (2,), (1, 1))
        self.assertIs(is_linear(*program, ("least", (1, (1, 1)), (1, (1,)))), True)
        self.assertIs(is_corner(((1, 1),), (2,), 2, (1, (1, 1))), False)

    def test_a_least_point_need_not_have_integers(self):
        value = linear_answer(((2,),), (1,), (1,))
        self.assertEqual((value[0], value_of((1,), value[1])), ("least", (1, 2)))

    def test_with_costs_of_at_least_nought_something_need_not_fit(self):
        self.assertEqual(linear_answer(((-1,),), (1,), (5,))[0], "none")


if __name__ == "__main__":
    unittest.main()
