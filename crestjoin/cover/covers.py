"""Covers and packings of lots, whose bounds meet [stage 6]."""

from crestjoin.base.checks import are_between, are_from_nought, check_number, is_integer, is_pair
from crestjoin.base.checks import lowest_terms, sum_of_products
from crestjoin.base.lots import are_lots, is_letter, lots_on
from crestjoin.base.numbers import power_for
from crestjoin.errors import InvalidLot, InvalidOperation
from crestjoin.exact.linear import corners, linear_answer

MOST_LOTS = 12
MOST_EXPONENT = 20


def check_lots(value):
    """Refuses all but the tuples of at most 12 lots."""
    if not are_lots(value) or len(value) > MOST_LOTS:
        raise InvalidLot("lots are a tuple of at most 12 lots")


def check_exponents(lots, value):
    """Refuses all but lots with an exponent from 0 to 20 for each of them."""
    check_lots(lots)
    if not are_between(value, 0, MOST_EXPONENT) or len(value) != len(lots):
        raise InvalidOperation("exponents are a tuple of an integer from 0 to 20 for each lot")


def _is_bottom(value):
    return is_integer(value) and value >= 1


def is_cover(lots, value):
    """Whether the value is a cover of the lots."""
    check_lots(lots)
    if not is_pair(value) or not _is_bottom(value[0]):
        return False
    if not are_from_nought(value[1]) or len(value[1]) != len(lots):
        return False
    D, weights = value
    return all([sum_of_products(row, weights) >= D for row in _letter_rows(lots)])


def _letter_rows(lots):
    # For each letter a row with 1 for the lots that have it.
    return tuple([tuple([1 if letter in lot else 0 for lot in lots]) for letter in lots_on(lots)])


def is_packing(lots, exponents, value):
    """Whether the value is a packing of the lots with these exponents."""
    check_exponents(lots, exponents)
    if not is_pair(value) or not _is_bottom(value[0]) or not _is_numbered(lots_on(lots), value[1]):
        return False
    D, numbers = value
    totals = [sum([numbers[letter] for letter in lot]) for lot in lots]
    return all([total <= D * exponent for total, exponent in zip(totals, exponents)])


def _is_numbered(letters, value):
    if not isinstance(value, dict) or not all([is_letter(letter) for letter in value]):
        return False
    return tuple(sorted(value)) == letters and are_from_nought(tuple(list(value.values())))


def cover_bound(lots, exponents, cover):
    """The bound of the cover, in least terms."""
    check_exponents(lots, exponents)
    if not is_cover(lots, cover):
        raise InvalidOperation("the cover is a cover of the lots")
    return lowest_terms(sum_of_products(cover[1], exponents), cover[0])


def packing_bound(lots, exponents, packing):
    """The bound of the packing, in least terms."""
    if not is_packing(lots, exponents, packing):
        raise InvalidOperation("the packing is a packing of the lots with these exponents")
    return lowest_terms(sum(packing[1].values()), packing[0])


def cover_answer(lots, exponents):
    """("least", bound, cover, packing) with the least bound of all covers, the greatest of all packings."""
    check_exponents(lots, exponents)
    letters = lots_on(lots)
    _, cover, prices = linear_answer(_letter_rows(lots), (1,) * len(letters), exponents)
    packing = (prices[0], dict(zip(letters, prices[1])))
    return ("least", cover_bound(lots, exponents, cover), cover, packing)


def is_cover_answer(lots, exponents, value):
    """Whether the value is what `cover_answer` tells, whoever made it."""
    check_exponents(lots, exponents)
    if not isinstance(value, tuple) or len(value) != 4 or value[0] != "least":
        return False
    _, bound, cover, packing = value
    if not is_cover(lots, cover) or not is_packing(lots, exponents, packing):
        return False
    if not are_from_nought(bound):
        return False
    return bound == cover_bound(lots, exponents, cover) and bound == packing_bound(lots, exponents, packing)


def cover_or_packing(lots, exponents, p, D):
    """("cover", cover) with a bound of at most (p, D), or ("packing", packing) with one above it."""
    check_exponents(lots, exponents)
    check_number(p, 0)
    check_number(D, 1)
    _, bound, cover, packing = cover_answer(lots, exponents)
    if bound[0] * D <= p * bound[1]:
        return ("cover", cover)
    return ("packing", packing)


def least_whole(lots, exponents):
    """The pair (cost, places) of the least cost of whole covers, and of the first places of lots that have it."""
    check_exponents(lots, exponents)
    letters = lots_on(lots)
    found = [(0, (), ())]
    for place, lot in enumerate(lots):
        taken = [(cost + exponents[place], places + (place,), held + lot) for cost, places, held in found]
        found = found + taken
    return min([(cost, places) for cost, places, held in found if tuple(sorted(set(held))) == letters])


def cover_corners(lots):
    """The ascending tuple of the covers that are corners: for all exponents one of them has the least bound."""
    check_lots(lots)
    rows = _letter_rows(lots)
    return corners(rows, (1,) * len(rows), len(lots))


def exponents_of(sizes):
    """The least exponents for the sizes."""
    if not are_between(sizes, 0, 1 << MOST_EXPONENT) or len(sizes) > MOST_LOTS:
        raise InvalidOperation("sizes are a tuple of at most 12 integers from 0 to 2 ** 20")
    return tuple([power_for(size) for size in sizes])
