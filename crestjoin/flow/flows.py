"""Flows: what told degrees bound, as plain counts that sums alone can judge [stage 10]."""

from crestjoin.base.checks import GREATEST, check_number, is_pair
from crestjoin.base.lots import are_apart, check_lot
from crestjoin.errors import InvalidFlow, InvalidLot, InvalidOperation, TooMany
from crestjoin.flow.counted import GOAL, TERM, are_crossings, are_drops, do_ascend, is_count, is_lot_within
from crestjoin.flow.counted import is_step_up
from crestjoin.flow.stock import CUT_STEP, DROP_STEP, GOAL_STEP, JOIN_STEP, SPARE_STEP, Stock
from crestjoin.flow.stock import mend, step_of, take_step, terms_changed

MOST_COUNTS = 200


def is_flow(lot, value):
    """Whether the value is a flow on the lot."""
    check_lot(lot)
    if not isinstance(value, tuple) or len(value) != 4 or not _are_goals(lot, value[0]):
        return False
    if not are_drops(lot, value[1]) or not are_crossings(lot, value[2]) or not are_drops(lot, value[3]):
        return False
    return not Stock(value).lacks()


def _are_goals(lot, value):
    if not isinstance(value, tuple) or not all([is_pair(goal) for goal in value]):
        return False
    if not all([is_lot_within(lot, some) and some != () and is_count(many) for some, many in value]):
        return False
    return do_ascend([some for some, many in value])


def is_passed_flow(lot, value):
    """Whether the value is a flow on the lot whose counts have at most nine digits."""
    return is_flow(lot, value) and all([many[-1] <= GREATEST for things in value for many in things])


def check_flow(lot, value):
    """Refuses all but the flows on the lot whose counts have at most nine digits."""
    if not is_passed_flow(lot, value):
        raise InvalidFlow("a flow is four tuples of counted lots: at no lot more is used than flows in")


def inflow(lot, flow, some):
    """What flows in at a lot."""
    check_lot(lot)
    check_flow(lot, flow)
    if not is_lot_within(lot, some) or some == ():
        raise InvalidLot("what flows in is told of a lot within the lot other than ()")
    return Stock(((),) + flow[1:]).over_at(some)


def weight_of(lot, flow):
    """The weight: how many goals there are."""
    check_lot(lot)
    check_flow(lot, flow)
    return _weight(flow)


def _weight(flow):
    return sum([many for _, many in flow[0]])


def check_counts(flow):
    """Refuses flows of which too much would have to be used, step by step."""
    if sum([many for things in flow[1:] for _, _, many in things]) > MOST_COUNTS:
        raise TooMany(MOST_COUNTS)


def steps_of(lot, flow):
    """Any steps of the flow."""
    check_lot(lot)
    check_flow(lot, flow)
    check_counts(flow)
    stock = Stock(flow)
    steps = []
    while stock.triples(GOAL) != ():
        # With a goal left there is a term from no letters on: they come first.
        steps.append(_next_step(stock, stock.triples(TERM)[0][1]))
        take_step(stock, steps[-1])
    return tuple(steps)


def _next_step(stock, some):
    if stock.has((GOAL, some, ())):
        return (GOAL_STEP, some)
    if stock.over_at(some) > 0:
        return (SPARE_STEP, some)
    return [step_of(thing, some) for thing, lead, _ in stock.leads() if lead == some][0]


def is_step(lot, value):
    """Whether the value has the form of a step of lots within the lot."""
    if not isinstance(value, tuple) or len(value) < 2 or not all([is_lot_within(lot, some) for some in value[1:]]):
        return False
    if len(value) == 2:
        return value[0] in (GOAL_STEP, SPARE_STEP)
    if len(value) != 3:
        return False
    kind, some, other = value
    if kind == CUT_STEP:
        return are_apart(some, other)
    return (kind == DROP_STEP and is_step_up(other, some)) or (kind == JOIN_STEP and is_step_up(some, other))


def are_steps(lot, flow, value):
    """Whether the value is steps of the flow."""
    check_lot(lot)
    check_flow(lot, flow)
    if not isinstance(value, tuple):
        return False
    bag = {(low, high): many for low, high, many in flow[1]}
    left = {some: many for some, many in flow[0]}
    for step in value:
        if not is_step(lot, step) or not _take(bag, left, step):
            return False
    return not any([many > 0 for many in left.values()])


def _take(bag, left, step):
    # Takes the step: whether this is possible.
    taken, put = terms_changed(step)
    if not all([bag.get(term, 0) > 0 for term in taken]):
        return False
    if step[0] == GOAL_STEP:
        if left.get(step[1], 0) == 0:
            return False
        left[step[1]] = left[step[1]] - 1
    for term in taken:
        bag[term] = bag[term] - 1
    for term in put:
        bag[term] = bag.get(term, 0) + 1
    return True


def without(lot, flow, some):
    """Any flow without one term ((), some), with no further terms or goals, that has lost at most one goal."""
    _check_without(lot, flow, some)
    stock = Stock(flow)
    stock.change((TERM, (), some), -1)
    mend(stock, some)
    return stock.as_flow()


def _check_without(lot, flow, some):
    check_lot(lot)
    check_flow(lot, flow)
    check_lot(some)
    if not Stock(flow).has((TERM, (), some)):
        raise InvalidOperation("the flow has a term from no letters on to the lot")


def is_without(lot, flow, some, value):
    """Whether the value is what `without` tells, whoever made it."""
    _check_without(lot, flow, some)
    if not is_flow(lot, value) or _weight(value) < _weight(flow) - 1:
        return False
    less = Stock(flow)
    less.change((TERM, (), some), -1)
    return are_among(value[1], less, TERM) and are_among([(goal, (), many) for goal, many in value[0]], less, GOAL)


def are_among(triples, stock, kind):
    """Whether the stock has as many of each of these things of a kind."""
    return all([many <= stock.counts.get((kind, one, other), 0) for one, other, many in triples])


def scaled_flow(lot, flow, number):
    """The flow with all counts times the number."""
    check_lot(lot)
    check_flow(lot, flow)
    check_number(number, 1)
    return tuple([tuple([thing[:-1] + (thing[-1] * number,) for thing in things]) for things in flow])


def flow_sum(lot, one, other):
    """The flow with the counts of both added."""
    check_lot(lot)
    check_flow(lot, one)
    check_flow(lot, other)
    stock = Stock(one)
    more = list(Stock(other).counts.items())
    for thing, many in more:
        stock.change(thing, many)
    return stock.as_flow()
