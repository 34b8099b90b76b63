"""Answers that are searched letter by letter, in any order, and how much is looked at [stage 4]."""

from crestjoin.base.checks import GREATEST, are_between, are_integers, check_number, is_between, is_pair, power
from crestjoin.errors import InvalidLot, InvalidOperation, TooMany
from crestjoin.table.joins import MOST_JOINED, MOST_PARTS, check_question
from crestjoin.table.leads import asked_lead, first_rows, is_begun, kept_numbers, leads_of
from crestjoin.table.tables import parts_at, table_of

MOST_WEIGHT = 99
MOST_LETTERS = 6


def check_order(lot, value):
    """Refuses all but the tuples of all letters of the lot, each once."""
    if not are_integers(value) or tuple(sorted(value)) != lot:
        raise InvalidLot("an order is a tuple of all letters of the lot, each once")


def searched(question, order):
    """The pair of the answer and of the looks of all letters, in the sequence of the order."""
    check_question(question)
    check_order(question.lot, order)
    rows = first_rows(question.parts)
    looks = []
    for leads in leads_of(question.parts, order):
        rows, many = longer_rows(rows, leads, leads)
        looks.append(many)
    return (table_of(question.lot, parts_at(rows, order, question.lot)), tuple(looks))


def longer_rows(rows, asking, leads):
    """The pair of the begun rows with one letter more, as all leads tell, and of the looks at what is asked."""
    looks = 0
    longer = []
    for row in rows:
        told = asked_lead(asking, row)[1]
        looks = looks + len(told)
        if looks > MOST_JOINED:
            raise TooMany(MOST_JOINED)
        longer.extend([row + (number,) for number in kept_numbers(leads, row, told)])
    return (longer, looks)


def begun_rows(question, order, many):
    """The ascending tuple of the begun rows of the first letters of the order."""
    check_question(question)
    check_order(question.lot, order)
    check_number(many, 0, len(order))
    rows = first_rows(question.parts)
    for leads in leads_of(question.parts, order[:many]):
        rows = longer_rows(rows, leads, leads)[0]
    return tuple(sorted(rows))


def asked(question, order, row):
    """The pair (part, numbers) of the part that is asked at the begun row, and of its next numbers."""
    check_question(question)
    check_order(question.lot, order)
    if not are_integers(row) or len(row) >= len(order) or not is_begun(question.parts, order, row):
        raise InvalidOperation("the row is a begun row of less than all letters")
    leads = leads_of(question.parts, order[:len(row) + 1])[-1]
    part, told = asked_lead(leads, row)
    return (part, tuple(list(told)))


def product_of(sizes, cover):
    """The product of the sizes, each to the power of its weight in the cover."""
    if not are_between(sizes, 0, GREATEST) or not 1 <= len(sizes) <= MOST_PARTS:
        raise InvalidOperation("sizes are a tuple of 1 to 12 integers from 0 on")
    if not _is_weighed(cover, len(sizes)):
        raise InvalidOperation("a cover is a pair of D from 1 to 99 and of weights from 0 to 99")
    product = 1
    for size, weight in zip(sizes, cover[1]):
        product = product * power(size, weight)
    return product


def _is_weighed(value, many):
    if not is_pair(value) or not is_between(value[0], 1, MOST_WEIGHT):
        return False
    return are_between(value[1], 0, MOST_WEIGHT) and len(value[1]) == many


def are_looks_within(looks, sizes, cover):
    """Whether each of the looks, to the power D of the cover, is at most the product of the sizes."""
    if not are_between(looks, 0, GREATEST) or len(looks) > MOST_LETTERS:
        raise InvalidOperation("looks are a tuple of at most 6 integers from 0 on")
    product = product_of(sizes, cover)
    return all([power(many, cover[0]) <= product for many in looks])
