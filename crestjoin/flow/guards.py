"""The guards of terms, and what is done with them along a log [12.1], [12.2]."""

from crestjoin.base.lots import common_lot, joined_lot
from crestjoin.flow.counted import is_lot_within
from crestjoin.flow.flows import is_flow
from crestjoin.flow.least import cost_of, told_pairs
from crestjoin.flow.parts import pieces_of
from crestjoin.flow.stock import CUT_STEP, DROP_STEP, SPARE_STEP, terms_changed
from crestjoin.rank.degrees import keeping_part
from crestjoin.table.joins import join
from crestjoin.table.tables import project


class Guard:
    """A table with at most 2 ** k rows on `above` for each of its rows on the letters of `above` that it is told by.

    If its k is great it has no table, as none is made.
    """

    def __init__(self, held, above, k):
        self.held = held
        self.above = above
        self.k = k


class Bag:
    """The terms of a run, each with its guards, the last one of which is used first. It changes."""

    def __init__(self, runs):
        # For each term a list of pairs of a guard and of how often it stands there.
        self.runs = runs

    def twin(self):
        """An equal bag that changes by itself."""
        return Bag({term: list(self.runs[term]) for term in self.runs})

    def has(self, term):
        """Whether the term is there."""
        return term in self.runs

    def last(self, term):
        """The guard of the term that is used first."""
        return self.runs[term][-1][0]

    def put(self, term, guard, many):
        """Puts the term in, so many times, with this guard."""
        self.runs.setdefault(term, []).append((guard, many))

    def take(self, term):
        """Takes the term out once, and returns its guard."""
        guard, many = self.runs[term].pop()
        if many > 1:
            self.runs[term].append((guard, many - 1))
        if self.runs[term] == []:
            del self.runs[term]
        return guard

    def has_all(self, terms):
        """Whether all terms, with their counts, are there."""
        return all([many <= sum([some for _, some in self.runs.get((low, high), [])]) for low, high, many in terms])

    def keep(self, terms):
        """Leaves just these terms with their counts: of more guards those that came first are left out."""
        kept = {}
        for low, high, many in terms:
            runs = []
            left = many
            for guard, some in reversed(self.runs[(low, high)]):
                if left > 0:
                    runs.append((guard, min(some, left)))
                    left = left - some
            kept[(low, high)] = runs[::-1]
        self.runs = kept

    def from_none(self):
        """The lots of the terms from no letters on, ascending."""
        return [high for low, high in sorted(self.runs) if low == ()]


class Plan:
    """What a run is led from: a question, told degrees that it keeps, and a flow of them."""

    def __init__(self, question, told, flow):
        self.asking = question
        self.told = told
        self.flow = flow
        self.goals = {some: True for some, _ in flow[0]}
        self.p = cost_of(told, flow[1])
        self.D = sum([many for _, many in flow[0]])

    def is_great(self, guard):
        """Whether the guard's k is above the bound."""
        return guard.k * self.D > self.p

    def first_bag(self):
        """The terms of the flow, each guarded by the first part that keeps its degree."""
        pairs = told_pairs(self.told)
        bag = Bag({})
        for low, high, many in self.flow[1]:
            k = pairs[(low, high)]
            part = keeping_part(self.asking, (low, high, k))
            bag.put((low, high), Guard(project(part, high), high, k), many)
        return bag


def is_ready(plan, bag, some):
    """Whether the term from no letters on to the lot is there, and not great."""
    return bag.has(((), some)) and not plan.is_great(bag.last(((), some)))


def does_cut_pieces(step):
    """Whether the step is a cut at a lot with letters: a log goes on with each piece alone."""
    return step[0] == CUT_STEP and common_lot(step[1], step[2]) != ()


def step_sizes(plan, bag, step):
    """Takes a step that ends no log: a tuple of how many rows the made table has, None if it is not possible."""
    kind, some = step[:2]
    if not all([bag.has(term) for term in terms_changed(step)[0]]):
        return None
    if kind != SPARE_STEP and not is_ready(plan, bag, some):
        return None
    guard = bag.take(((), some))
    if kind == SPARE_STEP or step[2] == ():
        return ()
    if kind == CUT_STEP:
        bag.put((step[2], joined_lot(some, step[2])), Guard(guard.held, some, guard.k), 1)
        return ()
    if kind == DROP_STEP:
        made = Guard(project(guard.held, step[2]), step[2], guard.k)
    else:
        made = _joined_guard(plan, guard, bag.take((some, step[2])), step[2])
    bag.put(((), step[2]), made, 1)
    return (len(made.held),) if made.held is not None else ()


def _joined_guard(plan, guard, other, high):
    made = Guard(None, high, guard.k + other.k)
    if not plan.is_great(made):
        made.held = join(guard.held, project(other.held, other.above))
    return made


def cut_bags(plan, bag, step):
    """The pair of the bags of all pieces, and of the sizes of these and of their projections; None if not possible."""
    _, some, other = step
    if not is_ready(plan, bag, some):
        return None
    guard = bag.take(((), some))
    shared = common_lot(some, other)
    bags, sizes = [], []
    for level, piece in pieces_of(guard.held, shared, guard.k):
        lesser = project(piece, shared)
        branch = bag.twin()
        branch.put(((), shared), Guard(lesser, shared, guard.k - level), 1)
        branch.put((other, joined_lot(some, other)), Guard(piece, some, level), 1)
        bags.append(branch)
        sizes.extend([len(piece), len(lesser)])
    return (bags, sizes)


def give_up(plan, bag, some, flow):
    """Gives up a great term, and goes on with the terms of the flow: whether this is possible."""
    lot = plan.asking.lot
    if not is_lot_within(lot, some) or not bag.has(((), some)) or is_ready(plan, bag, some):
        return False
    if not is_flow(lot, flow) or flow[0] == ():
        return False
    bag.take(((), some))
    if not bag.has_all(flow[1]):
        return False
    bag.keep(flow[1])
    return True
