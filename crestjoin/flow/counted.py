"""Pairs of lots with counts: the terms, crossings and drops of flows, and what each of them adds at lots.

A *thing* is a goal, a term, a crossing or a drop: a triple (kind, one, other) of its kind and its two lots. A goal
has `()` as the other one.
"""

from crestjoin.base.checks import is_integer
from crestjoin.base.lots import are_apart, common_lot, is_lot, is_within, joined_lot

GOAL = "goal"
TERM = "term"
CROSSING = "crossing"
DROP = "drop"


def is_lot_within(lot, value):
    """Whether the value is a lot within the lot."""
    return is_lot(value) and is_within(value, lot)


def is_count(value):
    """Whether the value is an integer from 1 on, of any length."""
    return is_integer(value) and value >= 1


def do_ascend(things):
    """Whether they ascend, none coming twice."""
    return all([lesser < greater for lesser, greater in zip(things, things[1:])])


def _are_counted(lot, value):
    # Whether the value is a tuple of two lots within the lot and a count, each, the lots ascending.
    if not isinstance(value, tuple):
        return False
    for triple in value:
        if not isinstance(triple, tuple) or len(triple) != 3 or not is_count(triple[2]):
            return False
        if not is_lot_within(lot, triple[0]) or not is_lot_within(lot, triple[1]):
            return False
    return do_ascend([triple[:2] for triple in value])


def are_crossings(lot, value):
    """Whether the value is a tuple of crossings of lots within the lot, counts of any length [8.1]."""
    if not _are_counted(lot, value):
        return False
    return all([are_apart(one, other) and one < other for one, other, _ in value])


def are_drops(lot, value):
    """Whether the value is a tuple of drops, or of terms, on lots within the lot, counts of any length [8.1]."""
    return _are_counted(lot, value) and all([is_step_up(low, high) for low, high, _ in value])


def is_step_up(low, high):
    """Whether the first lot is within the other one and unlike it."""
    return low != high and is_within(low, high)


def gains_of(thing):
    """The pairs (lot, number) of what a thing adds to what flows in at lots other than `()`; a goal takes it."""
    kind, one, other = thing
    if kind == GOAL:
        gains = [(one, -1)]
    elif kind == TERM:
        gains = [(other, 1), (one, -1)]
    elif kind == DROP:
        gains = [(one, 1), (other, -1)]
    else:
        gains = [(common_lot(one, other), 1), (joined_lot(one, other), 1), (one, -1), (other, -1)]
    return [(lot, by) for lot, by in gains if lot != ()]
