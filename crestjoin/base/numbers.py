"""Bounds: pairs (p, D), read as 2 to the power p / D, compared by whole powers [0.9]."""

from crestjoin.base.checks import check_number, is_between, is_pair, lowest_terms, power
from crestjoin.errors import InvalidOperation

MOST_P = 10000
MOST_D = 1000
MOST_K = 20


def is_bound(value):
    """Whether the value is a bound of those that can be passed."""
    return is_pair(value) and is_between(value[0], 0, MOST_P) and is_between(value[1], 1, MOST_D)


def check_bound(value):
    """Refuses all but the bounds that can be passed."""
    if not is_bound(value):
        raise InvalidOperation("a bound is a pair of p up to 10000 and D from 1 to 1000")


def power_for(number):
    """The least k with 2 ** k >= number; 0 for 0."""
    check_number(number, 0)
    if number == 0:
        return 0
    return (number - 1).bit_length()


def is_below(number, bound):
    """Whether the number is within the bound: number ** D <= 2 ** p."""
    check_number(number, 0)
    check_bound(bound)
    p, D = bound
    return power(number, D) <= 1 << p


def most_within(bound):
    """The greatest integer that is within the bound."""
    p, D = least_terms(bound)
    if D == 1:
        return 1 << p
    limit = 1 << p
    found = 0
    for place in reversed(range(p // D + 1)):
        tried = found + (1 << place)
        if power(tried, D) <= limit:
            found = tried
    return found


def compare_bounds(one, other):
    """-1, 0 or 1 if the first bound is below, at or above the other one."""
    check_bound(one)
    check_bound(other)
    left = one[0] * other[1]
    right = other[0] * one[1]
    if left < right:
        return -1
    return 1 if left > right else 0


def least_terms(bound):
    """The same bound, p and D without a common divisor above 1."""
    check_bound(bound)
    return lowest_terms(bound[0], bound[1])
