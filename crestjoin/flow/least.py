"""The least bound that a flow of told degrees has for some goals, with a rank that shows that no flow has a lesser one.

Where a bound is told of several goals, a flow can have any of them, and a rank is above the bound at each of them.
"""

from crestjoin.base.checks import common_divisor, is_integer, is_pair, lowest_terms
from crestjoin.base.lots import is_within, joined_lot, lots_within
from crestjoin.exact.duals import least_form
from crestjoin.exact.pivots import point_of, prices_of
from crestjoin.flow.columns import crossings_and_drops, effort_of, lots_with_letters, rows_of
from crestjoin.flow.counted import GOAL, TERM, is_count
from crestjoin.flow.flows import are_among, is_flow
from crestjoin.flow.stock import NOTHING, Stock
from crestjoin.rank.ranks import is_rank


def told_pairs(told):
    """The dict from the told pairs (low, high), ascending, to the least k that is told of each."""
    least = {}
    for low, high, k in told:
        least[(low, high)] = min(k, least.get((low, high), k))
    return {pair: least[pair] for pair in sorted(least)}


def reached_from_none(told):
    """The lot of the letters that are reached from no letters on."""
    reached = ()
    # Each round but the last one reaches a letter, of which there are at most as many as told degrees have.
    for _ in range(len(told)):
        for low, high, _ in told:
            if is_within(low, reached):
                reached = joined_lot(reached, high)
    return reached


def cost_of(told, terms):
    """The sum of the terms' counts, each times the k of its pair; None if some pair is not told."""
    pairs = told_pairs(told)
    if not all([(low, high) in pairs for low, high, _ in terms]):
        return None
    return sum([many * pairs[(low, high)] for low, high, many in terms])


def weight_among(goals, flow):
    """The weight of a flow; None if it has none, or has a goal that is not one of these."""
    if not all([some in goals for some, _ in flow[0]]) or flow[0] == ():
        return None
    return sum([many for _, many in flow[0]])


def does_rank_keep(told, s, rank):
    """Whether the rank keeps the told degrees with a scale of any length."""
    return all([rank[high] - rank[low] <= s * k for low, high, k in told])


def least_answer(lot, goals, told):
    """("least", bound, flow, s, rank), or ("endless", rank) if each goal has a letter that is not reached."""
    reached = reached_from_none(told)
    if not any([is_within(goal, reached) for goal in goals]):
        return ("endless", {some: 0 if is_within(some, reached) else 1 for some in lots_within(lot)})
    pairs = told_pairs(told)
    things = [(GOAL, goal, ()) for goal in goals] + [(TERM, low, high) for low, high in pairs]
    things = things + crossings_and_drops(lot)
    lots = lots_with_letters(lot)
    form = _cheapest_form(lot, things, pairs)
    flow = _flow_of(things, point_of(form, len(things))[1])
    s, numbers = prices_of(form, len(lots) + 1, len(things))
    bound = lowest_terms(cost_of(told, flow[1]), weight_among(goals, flow))
    return ("least", bound, flow, s, dict(zip(((),) + lots, (0,) + numbers)))


def _cheapest_form(lot, things, pairs):
    # A program with a count for each thing: of flows with a goal one that costs least, and then has few counts.
    rows = rows_of(lot, things) + [[1 if thing[0] == GOAL else 0 for thing in things]]
    sides = [0] * (len(rows) - 1) + [1]
    costs = [pairs[thing[1:]] if thing[0] == TERM else 0 for thing in things]
    return least_form(rows, sides, [[effort_of(thing) for thing in things], costs])


def lesser_flow(lot, told, flow):
    """A flow of some of the flow's things, its terms among the flow's, with a bound that is at most the flow's."""
    things = Stock(flow).things()
    form = _cheapest_form(lot, things, told_pairs(told))
    found = _flow_of(things, point_of(form, len(things))[1])
    return found if are_among(found[1], Stock(flow), TERM) else flow


def _flow_of(things, counts):
    divisor = common_divisor(counts)
    stock = Stock(NOTHING)
    for thing, many in zip(things, counts):
        if many > 0:
            stock.change(thing, many // divisor)
    return stock.as_flow()


def is_least_answer(lot, goals, told, value):
    """Whether the value is what `least_answer` tells, whoever made it."""
    if is_pair(value) and value[0] == "endless":
        kept = tuple([(low, high, 0) for low, high, _ in told])
        return _is_kept_rank(lot, kept, 1, value[1]) and all([value[1][goal] > 0 for goal in goals])
    if not isinstance(value, tuple) or len(value) != 5 or value[0] != "least":
        return False
    _, bound, flow, s, rank = value
    if not _is_lowest(bound) or not is_paper(lot, goals, told, bound, flow):
        return False
    p, D = bound
    if cost_of(told, flow[1]) * D != p * weight_among(goals, flow) or not _is_kept_rank(lot, told, s, rank):
        return False
    return all([D * rank[goal] >= p * s for goal in goals])


def _is_lowest(value):
    if not is_pair(value) or not is_integer(value[0]) or not is_count(value[1]):
        return False
    return value[0] >= 0 and common_divisor(value) == 1


def is_paper(lot, goals, told, bound, value):
    """Whether the value is a flow with all its goals among these, and a bound that is at most this one."""
    if not is_flow(lot, value):
        return False
    cost, weight = cost_of(told, value[1]), weight_among(goals, value)
    return cost is not None and weight is not None and cost * bound[1] <= bound[0] * weight


def _is_kept_rank(lot, told, s, rank):
    return is_count(s) and is_rank(lot, rank) and does_rank_keep(told, s, rank)


def either_answer(lot, goals, told, p, D):
    """("paper", flow) with a bound of at most (p, D), or ("rank", s, rank) with a rank above it at each goal."""
    found = least_answer(lot, goals, told)
    if found[0] == "endless":
        # Its k taken as 0, it keeps all told degrees however often it is taken.
        return ("rank", 1, {some: number * (p + 1) for some, number in found[1].items()})
    _, bound, flow, s, rank = found
    if bound[0] * D <= p * bound[1]:
        return ("paper", flow)
    return ("rank", s, rank)


def is_either_answer(lot, goals, told, bound, value):
    """Whether the value is what `either_answer` tells of the bound, whoever made it."""
    if is_pair(value) and value[0] == "paper":
        return is_paper(lot, goals, told, bound, value[1])
    if not isinstance(value, tuple) or len(value) != 3 or value[0] != "rank":
        return False
    return is_rank_above(lot, goals, told, bound, value[1:])


def is_rank_above(lot, goals, told, bound, value):
    """Whether a pair is a scale and a rank that keeps the told degrees with it, above the bound at each goal."""
    s, rank = value
    return _is_kept_rank(lot, told, s, rank) and all([bound[1] * rank[goal] > bound[0] * s for goal in goals])
