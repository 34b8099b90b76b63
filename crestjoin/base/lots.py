"""Lots: ascending tuples of letters, the integers 0 to 5 [0.7]."""

from crestjoin.base.checks import is_between
from crestjoin.errors import InvalidLot, InvalidOperation

LAST_LETTER = 5


def is_letter(value):
    """Whether the value is a letter."""
    return is_between(value, 0, LAST_LETTER)


def is_lot(value):
    """Whether the value is a lot."""
    if not isinstance(value, tuple):
        return False
    # This is asked far more often than all else: one round, without a call for each letter.
    last = -1
    for letter in value:
        if not isinstance(letter, int) or isinstance(letter, bool) or not last < letter <= LAST_LETTER:
            return False
        last = letter
    return True


def are_lots(value):
    """Whether the value is a tuple of lots."""
    return isinstance(value, tuple) and all([is_lot(lot) for lot in value])


def check_lot(value):
    """Refuses all but lots."""
    if not is_lot(value):
        raise InvalidLot("a lot is an ascending tuple of letters from 0 to 5")


def joined_lot(one, other):
    """The lot of all letters of both lots."""
    check_lot(one)
    check_lot(other)
    return tuple(sorted(set(one + other)))


def common_lot(one, other):
    """The lot of the letters that both lots have."""
    check_lot(one)
    check_lot(other)
    return tuple([letter for letter in one if letter in other])


def rest_lot(one, other):
    """The lot of the letters of the first lot that the other one lacks."""
    check_lot(one)
    check_lot(other)
    return tuple([letter for letter in one if letter not in other])


def is_within(one, other):
    """Whether the other lot has all letters of the first one."""
    return rest_lot(one, other) == ()


def are_apart(one, other):
    """Whether neither lot is within the other one."""
    return rest_lot(one, other) != () and rest_lot(other, one) != ()


def lots_within(lot):
    """The ascending tuple of all lots within the lot."""
    check_lot(lot)
    found = [()]
    for letter in lot:
        found = found + [lesser + (letter,) for lesser in found]
    return tuple(sorted(found))


def lots_on(lots):
    """The lot of all letters of a tuple of lots."""
    if not are_lots(lots):
        raise InvalidOperation("lots are a tuple of lots")
    return tuple(sorted(set([letter for lot in lots for letter in lot])))
