"""Logs of runs: followed entry by entry, or led from a flow [12.2]."""

from crestjoin.base.lots import common_lot, rest_lot
from crestjoin.errors import TooMany
from crestjoin.flow.counted import TERM
from crestjoin.flow.flows import is_step
from crestjoin.flow.guards import cut_bags, does_cut_pieces, give_up, is_ready, step_sizes
from crestjoin.flow.least import lesser_flow
from crestjoin.flow.parts import pieces_of
from crestjoin.flow.stock import CUT_STEP, GOAL_STEP, JOIN_STEP, SPARE_STEP, Stock, mend, step_of, take_step

GIVE_UP = "give up"
MOST_ENDS = 5000


class Course:
    """What comes of a log: pairs of a goal and of its table, sizes of made tables, how many terms are given up."""

    def __init__(self):
        self.ends = []
        self.made = []
        self.given_up = 0


def followed(plan, log):
    """The course of the log, None if it is no log."""
    course = Course()
    pending = [(plan.first_bag(), log)]
    while pending:
        bag, entries = pending.pop()
        if not isinstance(entries, tuple) or entries == ():
            return None
        for entry in entries[:-1]:
            if not _take_entry(plan, bag, entry, course):
                return None
        if not _take_last(plan, bag, entries[-1], course, pending):
            return None
    return course


def _take_entry(plan, bag, entry, course):
    # Takes an entry that is not the last one: whether this is possible.
    if isinstance(entry, tuple) and len(entry) == 3 and entry[0] == GIVE_UP:
        course.given_up = course.given_up + 1
        return give_up(plan, bag, entry[1], entry[2])
    if not is_step(plan.asking.lot, entry) or entry[0] == GOAL_STEP or does_cut_pieces(entry):
        return False
    made = step_sizes(plan, bag, entry)
    if made is None:
        return False
    course.made.extend(made)
    return True


def _take_last(plan, bag, entry, course, pending):
    # Takes a last entry: whether this is possible. The logs of all pieces are to be followed then, the first one first.
    if not isinstance(entry, tuple):
        return False
    lot = plan.asking.lot
    if len(entry) == 2:
        if not is_step(lot, entry) or entry[0] != GOAL_STEP or entry[1] not in plan.goals:
            return False
        if not is_ready(plan, bag, entry[1]):
            return False
        course.ends.append((entry[1], bag.last(((), entry[1])).held))
        return True
    if len(entry) != 4 or not is_step(lot, entry[:3]) or not does_cut_pieces(entry) or not isinstance(entry[3], tuple):
        return False
    cut = cut_bags(plan, bag, entry[:3])
    if cut is None or len(cut[0]) != len(entry[3]):
        return False
    course.made.extend(cut[1])
    pending.extend(list(zip(cut[0], entry[3]))[::-1])
    return True


def led_log(plan):
    """A log that is led from the flow of the plan."""
    # With fewer terms there are fewer cuts to go through, and a log that takes fewer terms is a log all the same.
    lead = lesser_flow(plan.asking.lot, plan.told, plan.flow)
    whole = plan.first_bag()
    whole.keep(lead[1])
    records = []
    ends = 0
    pending = [(whole, Stock(lead), None)]
    while pending:
        bag, stock, behind = pending.pop()
        entries, branches = _led_branch(plan, bag, stock)
        pending.extend([(branch, stock.twin(), len(records)) for branch in branches[::-1]])
        records.append((entries, behind))
        if entries[-1][0] == GOAL_STEP:
            ends = ends + 1
        if ends > MOST_ENDS:
            raise TooMany(MOST_ENDS)
    return _put_together(records)


def _put_together(records):
    # Each record tells the one behind whose last cut it stands: from the last one on, all logs of a cut are made
    # before the cut's own.
    logs = {}
    for place, (entries, behind) in reversed(list(enumerate(records))):
        if entries[-1][0] == CUT_STEP:
            entries = entries[:-1] + [entries[-1] + (tuple(logs.get(place, [])[::-1]),)]
        logs.setdefault(behind, []).append(tuple(entries))
    return logs[None][0]


def _led_branch(plan, bag, stock):
    # The pair of the entries up to the end or to a cut in pieces, and of the bags of these.
    entries = []
    while True:
        entry = _chosen(plan, bag, stock)
        if entry[0] == GIVE_UP:
            entry = entry + (_mended(stock, entry[1]),)
            give_up(plan, bag, entry[1], entry[2])
        entries.append(entry)
        if entry[0] == GOAL_STEP:
            return (entries, [])
        if does_cut_pieces(entry):
            bags = cut_bags(plan, bag, entry)[0]
            if bags:
                take_step(stock, entry)
            return (entries, bags)
        if entry[0] != GIVE_UP:
            step_sizes(plan, bag, entry)
            take_step(stock, entry)


def _mended(stock, some):
    stock.change((TERM, (), some), -1)
    mend(stock, some)
    return stock.as_flow()


def _chosen(plan, bag, stock):
    # The next entry, without what comes behind it. A cut in pieces comes last: all that follows it, follows it often.
    lots = bag.from_none()
    ready = [some for some in lots if is_ready(plan, bag, some)]
    great = [some for some in lots if some not in ready]
    for some in ready:
        if some in plan.goals:
            return (GOAL_STEP, some)
    for some in ready:
        if len(bag.last(((), some)).held) == 0 and 1 < len(some) < len(plan.asking.lot):
            return _cut_of_nothing(plan.asking.lot, some)
    steps = [step_of(thing, some) for thing, some, _ in stock.leads() if some in ready]
    plain = [(_added_k(bag, step), step) for step in steps if not does_cut_pieces(step)]
    if plain:
        return min(plain)[1]
    for some in lots:
        if stock.over_at(some) > 0:
            return (SPARE_STEP, some)
    if great:
        return (GIVE_UP, great[0])
    return min([(_pieces(bag, step), step) for step in steps])[1]


def _cut_of_nothing(lot, some):
    # Without a row there are no pieces, and so there is nothing to follow: any cut at a letter of the lot ends it.
    other = rest_lot(lot, some)[:1] + some[:1]
    return (CUT_STEP, some, tuple(sorted(other)))


def _added_k(bag, step):
    # The k that the step brings: joins with little come first.
    if step[0] != JOIN_STEP:
        return 0
    return bag.last(((), step[1])).k + bag.last((step[1], step[2])).k


def _pieces(bag, step):
    guard = bag.last(((), step[1]))
    return len(pieces_of(guard.held, common_lot(step[1], step[2]), guard.k))
