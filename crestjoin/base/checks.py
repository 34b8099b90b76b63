"""What values are integers, how they are refused, and sums over them, for all other files."""

from math import gcd

from crestjoin.errors import InvalidNumber

GREATEST = 999999999
LONGEST_NAME = 8
NAME_LETTERS = "abcdefghijklmnopqrstuvwxyz"


def is_integer(value):
    """Whether the value is an integer, of any length [0.1]."""
    return isinstance(value, int) and not isinstance(value, bool)


def is_between(value, least, most):
    """Whether the value is an integer from `least` to `most`."""
    return is_integer(value) and least <= value <= most


def are_integers(value):
    """Whether the value is a tuple of integers of any length."""
    return isinstance(value, tuple) and all([is_integer(number) for number in value])


def are_between(value, least, most):
    """Whether the value is a tuple of integers from `least` to `most`."""
    return isinstance(value, tuple) and all([is_between(number, least, most) for number in value])


def are_from_nought(value):
    """Whether the value is a tuple of integers from 0 on, of any length."""
    return are_integers(value) and all([number >= 0 for number in value])


def is_name(value):
    """Whether the value is a name: one to eight of the letters a to z."""
    if not isinstance(value, str) or not 1 <= len(value) <= LONGEST_NAME:
        return False
    return all([letter in NAME_LETTERS for letter in value])


def is_pair(value):
    """Whether the value is a tuple of two."""
    return isinstance(value, tuple) and len(value) == 2


def check_number(value, least, most=GREATEST):
    """Refuses all but the integers from `least` to `most`."""
    if not is_between(value, least, most):
        raise InvalidNumber(value)


def power(base, exponent):
    """The base to the power of an exponent from 0 on, of any length."""
    result = 1
    square = base
    while exponent > 0:
        if exponent & 1:
            result = result * square
        exponent = exponent >> 1
        if exponent > 0:
            square = square * square
    return result


def sum_of_products(one, other):
    """The sum of the products of the numbers that stand at the same place of both."""
    return sum([first * second for first, second in zip(one, other)])


def common_divisor(numbers):
    """The greatest integer that divides all of the numbers; 0 if all of them are 0."""
    divisor = 0
    for number in numbers:
        divisor = gcd(divisor, number)
    return divisor


def lowest_terms(top, bottom):
    """The fraction as a pair without a common divisor above 1; the bottom is above 0."""
    divisor = common_divisor((top, bottom))
    return (top // divisor, bottom // divisor)


def lowest_point(under, numbers):
    """The point (under, numbers) in least terms [5.1]."""
    divisor = common_divisor([under, *numbers])
    return (under // divisor, tuple([number // divisor for number in numbers]))
