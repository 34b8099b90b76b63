"""Inequalities between ranks, told with papers: crossings and drops that make them, or a rank that fails [stage 8]."""

from crestjoin.base.checks import GREATEST, are_between, are_integers, check_number, is_pair
from crestjoin.base.lots import common_lot, joined_lot
from crestjoin.errors import InvalidOperation
from crestjoin.exact.duals import least_form
from crestjoin.exact.pivots import point_of, reason_of
from crestjoin.flow.columns import crossings_and_drops, effort_of, lots_with_letters, rows_of
from crestjoin.flow.counted import CROSSING, DROP, are_crossings, are_drops, gains_of, is_count, is_lot_within
from crestjoin.rank.ranks import check_lesser_lot, check_rank, check_rank_lot, is_rank

MOST_COVERING = 32


def is_total(lot, value):
    """Whether the value is a sum on the lot, with integers of any length."""
    if not isinstance(value, dict) or not all([is_lot_within(lot, some) and some != () for some in value]):
        return False
    return are_integers(tuple(list(value.values())))


def _check_total(lot, value):
    check_rank_lot(lot)
    if not is_total(lot, value):
        raise InvalidOperation("a sum is a dict from lots within the lot other than () to integers")
    if not are_between(tuple(list(value.values())), -GREATEST, GREATEST):
        raise InvalidOperation("a sum has integers of at most nine digits")


def _put_together(pairs):
    # The sum of pairs (lot, number), noughts and () left out.
    total = {}
    for lot, number in pairs:
        total[lot] = total.get(lot, 0) + number
    return {lot: total[lot] for lot in sorted(total) if lot != () and total[lot] != 0}


def made_sum(lot, crossings, drops):
    """The sum that the crossings and drops make."""
    check_rank_lot(lot)
    if not are_crossings(lot, crossings):
        raise InvalidOperation("crossings are an ascending tuple of triples of two lots apart and a count")
    if not are_drops(lot, drops):
        raise InvalidOperation("drops are an ascending tuple of triples of a lot within another one and a count")
    things = [((CROSSING, one, other), many) for one, other, many in crossings]
    things = things + [((DROP, low, high), many) for low, high, many in drops]
    # A sum counts what flows away, gains what flows in.
    return _put_together([(some, -by * many) for thing, many in things for some, by in gains_of(thing)])


def value_at(lot, total, rank):
    """The value of the sum at a rank."""
    _check_total(lot, total)
    check_rank(lot, rank)
    return _value(total, rank)


def _value(total, rank):
    return sum([number * rank[some] for some, number in total.items()])


def inequality_answer(lot, total):
    """("holds", (E, crossings, drops)) with what makes the sum E times, or ("fails", rank) with a value below 0."""
    _check_total(lot, total)
    return total_answer(lot, total)


def total_answer(lot, total):
    """What can be told of a sum with integers of any length."""
    lots = lots_with_letters(lot)
    things = crossings_and_drops(lot)
    sides = [-total.get(some, 0) for some in lots]
    form = least_form(rows_of(lot, things), sides, [[effort_of(thing) for thing in things]])
    if form.end[0] == "none":
        numbers = reason_of(form, len(lots), len(things))
        return ("fails", {some: number for some, number in zip(((),) + lots, (0,) + numbers)})
    times, counts = point_of(form, len(things))
    return ("holds", _paper_of(lot, total, times, dict(zip(things, counts))))


def _paper_of(lot, total, times, counts):
    # What is left of the sum, so many times, behind the crossings and drops is 0 or more at each lot: drops to ().
    crossings = _triples(CROSSING, counts)
    made = made_sum(lot, crossings, _triples(DROP, counts))
    for some in lots_with_letters(lot):
        counts[(DROP, (), some)] = times * total.get(some, 0) - made.get(some, 0)
    return (times, crossings, _triples(DROP, counts))


def _triples(kind, counts):
    found = [(thing[1], thing[2], many) for thing, many in counts.items() if thing[0] == kind and many > 0]
    return tuple(sorted(found))


def is_inequality_answer(lot, total, value):
    """Whether the value is what `inequality_answer` tells, whoever made it."""
    _check_total(lot, total)
    if not is_pair(value):
        return False
    if value[0] == "fails":
        return does_fail(lot, total, value[1])
    return value[0] == "holds" and does_make(lot, total, value[1])


def does_fail(lot, total, value):
    """Whether the value is a rank at which a sum has a value below 0."""
    return is_rank(lot, value) and _value(total, value) < 0


def does_make(lot, total, value):
    """Whether the value is a triple (E, crossings, drops) that make a sum E times."""
    if not isinstance(value, tuple) or len(value) != 3 or not is_count(value[0]):
        return False
    times, crossings, drops = value
    if not are_crossings(lot, crossings) or not are_drops(lot, drops):
        return False
    return made_sum(lot, crossings, drops) == _put_together([(some, times * by) for some, by in total.items()])


def cover_total(lot, lots, weights, k):
    """The sum of all weights, each at its lot, less k at the whole lot."""
    check_rank_lot(lot)
    if not isinstance(lots, tuple) or len(lots) > MOST_COVERING or not all([is_lot_within(lot, some) for some in lots]):
        raise InvalidOperation("lots are a tuple of at most 32 lots within the lot")
    if not are_between(weights, 0, GREATEST) or len(weights) != len(lots):
        raise InvalidOperation("weights are a tuple of an integer from 0 on for each lot")
    check_number(k, 1)
    return _put_together([*list(zip(lots, weights)), (lot, -k)])


def greater_total(lot, total, some):
    """The sum with each lot's letters and those of `some`, less all of it at `some`."""
    _check_total(lot, total)
    check_lesser_lot(lot, some)
    pairs = [(joined_lot(lesser, some), number) for lesser, number in total.items()]
    return _put_together([*pairs, (some, -sum(total.values()))])


def lesser_total(lot, total, some):
    """The sum with just those of each lot's letters that `some` has."""
    _check_total(lot, total)
    check_lesser_lot(lot, some)
    return _put_together([(common_lot(lesser, some), number) for lesser, number in total.items()])
