"""What is left of a flow while it is used, step by step, or mended where a term was taken off it."""

from crestjoin.base.lots import common_lot, joined_lot
from crestjoin.flow.counted import CROSSING, DROP, GOAL, TERM, gains_of

GOAL_STEP = "goal"
SPARE_STEP = "spare"
DROP_STEP = "drop"
CUT_STEP = "cut"
JOIN_STEP = "join"
NOTHING = ((), (), (), ())


class Stock:
    """The things of a flow with their counts, and what is over at lots: what flows in, less the goals. It changes."""

    def __init__(self, flow):
        self.counts = {}
        self.over = {}
        goals, terms, crossings, drops = flow
        for some, many in goals:
            self.change((GOAL, some, ()), many)
        for kind, triples in ((TERM, terms), (CROSSING, crossings), (DROP, drops)):
            for one, other, many in triples:
                self.change((kind, one, other), many)

    def change(self, thing, by):
        """Puts the thing in so many times, or takes it off."""
        left = self.counts.get(thing, 0) + by
        self.counts[thing] = left
        if left == 0:
            del self.counts[thing]
        for some, number in gains_of(thing):
            self.over[some] = self.over.get(some, 0) + number * by

    def has(self, thing):
        """Whether the thing is there."""
        return thing in self.counts

    def over_at(self, some):
        """What is over at the lot."""
        return self.over.get(some, 0)

    def lacks(self):
        """Whether at some lot less flows in than there are goals."""
        return any([many < 0 for many in self.over.values()])

    def things(self):
        """The ascending list of all things that are there."""
        return sorted(self.counts)

    def triples(self, kind):
        """The ascending tuple of the things of a kind, each with its count."""
        found = [(thing[1], thing[2], many) for thing, many in self.counts.items() if thing[0] == kind]
        return tuple(sorted(found))

    def as_flow(self):
        """The flow that is left."""
        goals = tuple([(some, many) for some, _, many in self.triples(GOAL)])
        return (goals, self.triples(TERM), self.triples(CROSSING), self.triples(DROP))

    def twin(self):
        """An equal stock that changes by itself."""
        other = Stock(NOTHING)
        other.counts = {thing: self.counts[thing] for thing in self.counts}
        other.over = {some: self.over[some] for some in self.over}
        return other

    def leads(self):
        """All triples (thing, some, to) of a thing that leads away from a lot, and of the lot to which it leads."""
        found = []
        for kind, one, other in self.things():
            if kind == DROP:
                found.append(((kind, one, other), other, one))
            elif kind == TERM and one != ():
                found.append(((kind, one, other), one, other))
            elif kind == CROSSING:
                both = joined_lot(one, other)
                found.extend([((kind, one, other), one, both), ((kind, one, other), other, both)])
        return found


def step_of(thing, some):
    """The step by which a thing leads away from the lot."""
    kind, one, other = thing
    if kind == DROP:
        return (DROP_STEP, some, one)
    if kind == TERM:
        return (JOIN_STEP, some, other)
    return (CUT_STEP, some, other if some == one else one)


def terms_changed(step):
    """The pair of the terms that a step takes out of the bag, and of those that it puts in."""
    kind, some = step[:2]
    if kind == DROP_STEP:
        return ([((), some)], _from_none(step[2]))
    if kind == CUT_STEP:
        return ([((), some)], _from_none(common_lot(some, step[2])) + [(step[2], joined_lot(some, step[2]))])
    if kind == JOIN_STEP:
        return ([((), some), (some, step[2])], [((), step[2])])
    return ([((), some)], [])


def _from_none(lot):
    return [((), lot)] if lot != () else []


def take_step(stock, step):
    """Takes the step: its terms are changed, and what it uses beside them is taken off."""
    taken, put = terms_changed(step)
    for low, high in taken:
        stock.change((TERM, low, high), -1)
    for low, high in put:
        stock.change((TERM, low, high), 1)
    kind, some = step[:2]
    if kind == GOAL_STEP:
        stock.change((GOAL, some, ()), -1)
    elif kind == DROP_STEP:
        stock.change((DROP, step[2], some), -1)
    elif kind == CUT_STEP:
        stock.change((CROSSING, min(some, step[2]), max(some, step[2])), -1)


def mend(stock, lacking):
    """Makes a flow of the stock again, in which one lacks at the lot: takes things off, and loses a goal at most."""
    used = {}
    while lacking != () and stock.over_at(lacking) < 0:
        if stock.has((GOAL, lacking, ())):
            stock.change((GOAL, lacking, ()), -1)
        else:
            thing, to = _first_taken(stock, lacking, used)
            used[thing] = used.get(thing, 0) + 1
            _take_off(stock, thing, lacking)
            lacking = to


def _take_off(stock, thing, lacking):
    kind, one, other = thing
    stock.change(thing, -1)
    if kind == CROSSING and common_lot(one, other) != ():
        stock.change((DROP, common_lot(one, other), other if lacking == one else one), 1)


def _first_taken(stock, lacking, used):
    # The first thing on a shortest way to a lot that can do with one less, and where it leads: so counts of any size
    # are not used up in rings. If there is no such way yet, the drops that are put in on rings will open one.
    leads = stock.leads()
    firsts = {to: (thing, to) for thing, some, to in reversed(leads) if some == lacking}
    waiting = sorted(firsts)
    place = 0
    while place < len(waiting):
        some = waiting[place]
        if some == () or stock.over_at(some) > 0 or stock.has((GOAL, some, ())):
            return firsts[some]
        for _, reached, to in leads:
            if reached == some and to not in firsts:
                firsts[to] = firsts[some]
                waiting.append(to)
        place = place + 1
    away = [(used.get(thing, 0), thing, to) for thing, some, to in leads if some == lacking]
    return min(away)[1:]
