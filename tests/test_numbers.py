"""Bounds [0.9], their powers [1.1], [1.2], and the functions of crestjoin.base.numbers."""

import unittest
from math import gcd

from crestjoin.base.numbers import compare_bounds, is_below, least_terms, most_within, power_for
from crestjoin.errors import InvalidNumber, InvalidOperation
from tests.support import GREATEST, HUGE, LONG, OBJECTS, ODD, BOOLS, LONG_NUMBERS, check_wrongs, refused, wrong_numbers

BOUNDS = [(p, D) for p in range(13) for D in range(1, 7)]
WRONG_BOUNDS = ODD + OBJECTS + BOOLS + LONG_NUMBERS + (
    0, 1, (), (1,), (1, 1, 1), [1, 1], (-1, 1), (1, 0), (1, -1), (10001, 1), (1, 1001), (10000, LONG), (LONG, 1),
    (True, 1), (1, True), (False, 1), (None, 1), (1, "1"), ((1,), 1), (1, (1,)), (HUGE, 1), "11", {1: 1, 2: 2},
)


def is_within_plainly(number, bound):
    return number ** bound[1] <= 2 ** bound[0]


class NumbersTest(unittest.TestCase):
    def test_power_for_is_the_least(self):
        self.assertEqual([power_for(number) for number in range(10)], [0, 0, 1, 2, 2, 3, 3, 3, 3, 4])
        for number in list(range(1, 3000)) + [2 ** 20, 2 ** 20 + 1, 2 ** 29, 2 ** 29 + 1, GREATEST]:
            k = power_for(number)
            self.assertGreaterEqual(2 ** k, number)
            self.assertTrue(k == 0 or 2 ** (k - 1) < number)

    def test_is_below_by_plain_powers(self):
        for bound in BOUNDS:
            for number in range(70):
                self.assertIs(is_below(number, bound), is_within_plainly(number, bound))

    def test_is_below_at_the_edges(self):
        self.assertIs(is_below(1, (0, 1)), True)
        self.assertIs(is_below(0, (0, 1000)), True)
        self.assertIs(is_below(2, (0, 1)), False)
        self.assertIs(is_below(1024, (10000, 1000)), True)
        self.assertIs(is_below(1025, (10000, 1000)), False)
        self.assertIs(is_below(GREATEST, (10000, 1)), True)
        self.assertIs(is_below(GREATEST, (10000, 1000)), False)

    def test_most_within_is_the_greatest(self):
        for bound in BOUNDS + [(10000, D) for D in (1, 2, 3, 7, 500, 999, 1000)] + [(9999, 2), (0, 1000), (1, 1000)]:
            most = most_within(bound)
            self.assertTrue(is_within_plainly(most, bound))
            self.assertFalse(is_within_plainly(most + 1, bound))
        self.assertEqual(most_within((10000, 1)), 2 ** 10000)

    def test_compare_bounds_by_products(self):
        for one in BOUNDS:
            for other in BOUNDS:
                left, right = one[0] * other[1], other[0] * one[1]
                self.assertEqual(compare_bounds(one, other), (left > right) - (left < right))
        self.assertEqual(compare_bounds((10000, 999), (9999, 1000)), 1)
        self.assertEqual(compare_bounds((10000, 1000), (10, 1)), 0)

    def test_least_terms(self):
        for bound in BOUNDS + [(10000, 1000), (9999, 999), (7, 1000)]:
            p, D = least_terms(bound)
            self.assertEqual((gcd(p, D), p * bound[1]), (1, bound[0] * D))
        self.assertEqual(least_terms((0, 1000)), (0, 1))

    def test_powers(self):
        """[1.1]: within greater bounds, too, and products within the bound of both."""
        for one in BOUNDS:
            numbers = [number for number in range(20) if is_below(number, one)]
            for other in BOUNDS:
                if one[0] * other[1] <= other[0] * one[1]:
                    self.assertTrue(all(is_below(number, other) for number in numbers))
                both = (one[0] * other[1] + other[0] * one[1], one[1] * other[1])
                for second in range(20):
                    if is_below(second, other):
                        self.assertTrue(all(is_below(number * second, both) for number in numbers))

    def test_bounds_with_the_same_integers_can_be_unlike(self):
        """[1.2]"""
        self.assertEqual(most_within((0, 1)), most_within((1, 2)))
        self.assertEqual([is_below(n, (0, 1)) for n in range(9)], [is_below(n, (1, 2)) for n in range(9)])
        self.assertEqual(compare_bounds((0, 1), (1, 2)), -1)
        self.assertNotEqual(least_terms((0, 1)), least_terms((1, 2)))

    def test_wrong_arguments(self):
        number, bound = (InvalidNumber, wrong_numbers(0)), (InvalidOperation, WRONG_BOUNDS)
        check_wrongs(self, power_for, (9,), ((number,),))
        check_wrongs(self, is_below, (2, (3, 2)), ((number,), (bound,)))
        check_wrongs(self, most_within, ((3, 2),), ((bound,),))
        check_wrongs(self, compare_bounds, ((3, 2), (6, 4)), ((bound,), (bound,)))
        check_wrongs(self, least_terms, ((3, 2),), ((bound,),))

    def test_one_digit_more(self):
        refused(self, InvalidNumber, power_for, (LONG,), LONG)
        refused(self, InvalidNumber, is_below, (LONG, (1, 1)), LONG)
        self.assertEqual(power_for(GREATEST), 30)


if __name__ == "__main__":
    unittest.main()
