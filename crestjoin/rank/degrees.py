"""Bounds by told degrees: a flow that shows one, or a rank that shows that there is none [stage 9]."""

from crestjoin.base.checks import check_number, is_between, is_pair
from crestjoin.base.lots import check_lot, is_within
from crestjoin.base.numbers import MOST_K, power_for
from crestjoin.errors import InvalidLot, InvalidTold, Refused
from crestjoin.flow.counted import is_lot_within, is_step_up
from crestjoin.flow.least import does_rank_keep, either_answer, is_either_answer, is_least_answer, least_answer
from crestjoin.flow.least import reached_from_none
from crestjoin.rank.ranks import check_rank, check_rank_lot
from crestjoin.table.joins import check_question
from crestjoin.table.tables import degree

MOST_TOLD = 20


def is_told(lot, value):
    """Whether the value is told degrees on the lot."""
    check_lot(lot)
    if not isinstance(value, tuple) or len(value) > MOST_TOLD:
        return False
    return all([_is_told_degree(lot, one) for one in value])


def _is_told_degree(lot, value):
    if not isinstance(value, tuple) or len(value) != 3 or not is_between(value[2], 0, MOST_K):
        return False
    low, high = value[:2]
    return is_lot_within(lot, low) and is_lot_within(lot, high) and is_step_up(low, high)


def check_told(lot, value):
    """Refuses all but told degrees on the lot."""
    if not is_told(lot, value):
        raise InvalidTold("told degrees are a tuple of at most 20 triples (low, high, k) on the lot")


def check_goal_lot(lot):
    """Refuses all but the lots of one to five letters."""
    check_rank_lot(lot)
    if lot == ():
        raise InvalidLot("the lot has one to five letters")


def keeping_part(question, one):
    """The first part of the question that keeps a told degree; None if none does."""
    low, high, k = one
    for part in question.parts:
        if is_within(high, part.lot) and degree(part, low, high) <= 1 << k:
            return part
    return None


def keeps(question, told):
    """The tuple that tells for each told degree whether the question keeps it."""
    check_question(question)
    check_told(question.lot, told)
    return tuple([keeping_part(question, one) is not None for one in told])


def exact_told(question, pairs):
    """The told degrees with the pairs (low, high), each with the least k with which the question keeps it."""
    check_question(question)
    if not isinstance(pairs, tuple) or not all([is_pair(pair) for pair in pairs]):
        raise InvalidTold("pairs are a tuple of pairs (low, high)")
    check_told(question.lot, tuple([pair + (0,) for pair in pairs]))
    return tuple([(low, high, _least_kept(question, low, high)) for low, high in pairs])


def _least_kept(question, low, high):
    degrees = [degree(part, low, high) for part in question.parts if is_within(high, part.lot)]
    if degrees == []:
        raise Refused(("part", low, high))
    return power_for(min(degrees))


def does_keep(lot, told, s, rank):
    """Whether the rank keeps the told degrees with the scale."""
    check_goal_lot(lot)
    check_told(lot, told)
    check_number(s, 1)
    check_rank(lot, rank)
    return does_rank_keep(told, s, rank)


def reached_letters(lot, told):
    """The lot of the letters that are reached from no letters on."""
    check_goal_lot(lot)
    check_told(lot, told)
    return reached_from_none(told)


def check_p_and_d(p, D):
    """Refuses all but an integer from 0 on and one from 1 on."""
    check_number(p, 0)
    check_number(D, 1)


def bound_answer(lot, told, p, D):
    """("paper", flow) with a bound of at most (p, D) for the lot, or ("rank", s, rank) with a rank above it."""
    check_goal_lot(lot)
    check_told(lot, told)
    check_p_and_d(p, D)
    return either_answer(lot, (lot,), told, p, D)


def is_bound_answer(lot, told, p, D, value):
    """Whether the value is what `bound_answer` tells, whoever made it."""
    check_goal_lot(lot)
    check_told(lot, told)
    check_p_and_d(p, D)
    return is_either_answer(lot, (lot,), told, (p, D), value)


def least_bound(lot, told):
    """("least", bound, flow, s, rank) with the least bound, or ("endless", rank) if not all letters are reached."""
    check_goal_lot(lot)
    check_told(lot, told)
    return least_answer(lot, (lot,), told)


def is_least_bound(lot, told, value):
    """Whether the value is what `least_bound` tells, whoever made it."""
    check_goal_lot(lot)
    check_told(lot, told)
    return is_least_answer(lot, (lot,), told, value)
