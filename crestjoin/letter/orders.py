"""Searches letter by letter that ask told degrees, and bounds of their looks [stage 15]."""

from crestjoin.base.checks import are_between, are_from_nought, common_divisor, is_integer, is_pair
from crestjoin.base.checks import lowest_terms, sum_of_products
from crestjoin.base.lots import are_lots, check_lot, is_letter, lots_on, rest_lot
from crestjoin.errors import InvalidLot, InvalidOperation, Refused, TooMany
from crestjoin.exact.duals import least_form
from crestjoin.exact.pivots import point_of, prices_of
from crestjoin.flow.counted import is_count
from crestjoin.letter.search import check_order, longer_rows
from crestjoin.rank.degrees import check_told, keeping_part, keeps
from crestjoin.table.joins import MOST_PARTS, Question, check_question
from crestjoin.table.leads import first_rows, leads_of
from crestjoin.table.tables import MOST_ROWS, parts_at, project, table_of

MOST_NUMBER = 9


def do_go_along(lot, told, order):
    """Whether of each told degree each letter of low stands ahead of each new one."""
    check_lot(lot)
    check_told(lot, told)
    check_order(lot, order)
    return _go_along(told, order)


def _go_along(told, order):
    places = {letter: place for place, letter in enumerate(order)}
    return all([places[elder] < places[new] for low, high, _ in told for elder in low for new in rest_lot(high, low)])


def _check_letters(lot):
    if lot == ():
        raise InvalidOperation("the lot has a letter")


def _rows_of(lot, told):
    # For each letter a row with 1 for the told degrees to which it is new.
    return [[1 if letter in rest_lot(high, low) else 0 for low, high, _ in told] for letter in lot]


def _open_letter(lot, told):
    # The least letter that is new to no told degree, None if there is none.
    for letter, row in zip(lot, _rows_of(lot, told)):
        if 1 not in row:
            return letter
    return None


def _check_along(lot, told, order):
    check_lot(lot)
    check_told(lot, told)
    check_order(lot, order)
    _check_letters(lot)
    if not _go_along(told, order):
        raise InvalidOperation("the told degrees go along the order")


def letter_bound(lot, told, order):
    """("least", (p, D), weights, numbers) with the least bound, or ("open", letter)."""
    _check_along(lot, told, order)
    letter = _open_letter(lot, told)
    if letter is not None:
        return ("open", letter)
    costs = [k for _, _, k in told]
    form = least_form(_rows_of(lot, told), [1] * len(lot), [costs])
    weights = point_of(form, len(told))
    under, prices = prices_of(form, len(lot), len(told))
    bound = lowest_terms(sum_of_products(costs, weights[1]), weights[0])
    return ("least", bound, weights, (under, dict(zip(lot, prices))))


def is_letter_bound(lot, told, order, value):
    """Whether the value is what `letter_bound` tells, whoever made it."""
    _check_along(lot, told, order)
    if is_pair(value) and value[0] == "open":
        return is_integer(value[1]) and value[1] == _open_letter(lot, told)
    if not isinstance(value, tuple) or len(value) != 4 or value[0] != "least":
        return False
    _, bound, weights, numbers = value
    if not is_pair(bound) or not are_from_nought(bound) or not is_count(bound[1]) or common_divisor(bound) != 1:
        return False
    if not _are_weights(lot, told, weights) or not _are_numbers(lot, told, numbers):
        return False
    cost = sum_of_products([k for _, _, k in told], weights[1])
    total = sum(numbers[1].values())
    return cost * bound[1] == bound[0] * weights[0] and total * bound[1] == bound[0] * numbers[0]


def are_weights(lot, told, value):
    """Whether the value is weights of the told degrees."""
    check_lot(lot)
    check_told(lot, told)
    _check_letters(lot)
    return _are_weights(lot, told, value)


def _are_weights(lot, told, value):
    if not is_pair(value) or not is_count(value[0]) or not are_from_nought(value[1]) or len(value[1]) != len(told):
        return False
    return all([sum_of_products(row, value[1]) >= value[0] for row in _rows_of(lot, told)])


def are_numbers(lot, told, value):
    """Whether the value is numbers of the told degrees."""
    check_lot(lot)
    check_told(lot, told)
    _check_letters(lot)
    return _are_numbers(lot, told, value)


def _are_numbers(lot, told, value):
    if not is_pair(value) or not is_count(value[0]) or not _is_numbered(lot, value[1]):
        return False
    under, numbers = value
    if not are_from_nought(tuple(list(numbers.values()))):
        return False
    return all([sum([numbers[new] for new in rest_lot(high, low)]) <= under * k for low, high, k in told])


def _is_numbered(lot, value):
    # Whether the value is a dict from just the letters of the lot.
    return isinstance(value, dict) and all([is_letter(letter) for letter in value]) and tuple(sorted(value)) == lot


def searched_by(question, told, order):
    """The pair of the answer and of the looks of all letters, the told degrees being asked."""
    check_question(question)
    lot = question.lot
    _check_along(lot, told, order)
    if _open_letter(lot, told) is not None:
        raise InvalidOperation("each letter is new to a told degree")
    kept = keeps(question, told)
    if False in kept:
        raise Refused(("kept", kept.index(False)))
    rows = first_rows(question.parts)
    looks = []
    for asking, leads in zip(_asking_leads(question, told, order), leads_of(question.parts, order)):
        rows, many = longer_rows(rows, asking, leads)
        looks.append(many)
    return (table_of(lot, parts_at(rows, order, lot)), tuple(looks))


def _asking_leads(question, told, order):
    # For each letter what the parts that keep the degrees to which it is new tell there, the degrees' letters alone.
    tables = [project(keeping_part(question, one), one[1]) for one in told]
    new = [rest_lot(high, low) for low, high, _ in told]
    leads = leads_of(tables, order)
    return [[lead for lead in some if letter in new[lead[0]]] for letter, some in zip(order, leads)]


def full_question(lot, lots, numbers):
    """The question whose parts have all rows with, at each letter, 2 to the power of its number many numbers."""
    check_lot(lot)
    if not are_lots(lots) or not 1 <= len(lots) <= MOST_PARTS or lots_on(lots) != lot:
        raise InvalidLot("lots are a tuple of 1 to 12 lots that together have all letters of the lot")
    if not _is_numbered(lot, numbers) or not are_between(tuple(list(numbers.values())), 0, MOST_NUMBER):
        raise InvalidOperation("numbers are a dict from all letters of the lot to integers from 0 to 9")
    _check_letters(lot)
    for some in lots:
        if 1 << sum([numbers[letter] for letter in some]) > MOST_ROWS:
            raise TooMany(MOST_ROWS)
    return Question(lot, tuple([_full_table(some, numbers) for some in lots]))


def _full_table(lot, numbers):
    rows = [()]
    for letter in lot:
        rows = [row + (number,) for row in rows for number in range(1 << numbers[letter])]
    return table_of(lot, rows)
