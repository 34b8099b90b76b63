"""Logs of runs followed from the words of the document [12.1], [12.2], and questions with told degrees and flows."""

import random

from crestjoin.flow.flows import without
from crestjoin.rank.degrees import exact_told, least_bound
from crestjoin.table.joins import Question
from crestjoin.table.tables import Table
from tests.support import all_lots, common, drawn_flow, flows_plainly, inflows, part_of, union


class NoLog(Exception):
    """What was followed is no log."""


def need(holds):
    if not holds:
        raise NoLog


def rows_at(lot, rows, some):
    return sorted({part_of(lot, row, some) for row in rows})


def degree_at(lot, rows, low, high):
    above = {}
    for row in rows:
        above.setdefault(part_of(lot, row, low), set()).add(part_of(lot, row, high))
    return max([len(some) for some in above.values()], default=0)


def joined_rows(one_lot, one, other_lot, other):
    lot, shared = union(one_lot, other_lot), common(one_lot, other_lot)
    found = set()
    by_part = {}
    for row in other:
        by_part.setdefault(part_of(other_lot, row, shared), []).append(row)
    for row in one:
        for more in by_part.get(part_of(one_lot, row, shared), []):
            numbers = {**dict(zip(one_lot, row)), **dict(zip(other_lot, more))}
            found.add(tuple(numbers[letter] for letter in lot))
    return sorted(found)


def pieces_at(lot, rows, low, k):
    groups = {}
    for row in rows:
        groups.setdefault(part_of(lot, row, low), []).append(row)
    found = []
    for level in sorted({(len(some) - 1).bit_length() for some in groups.values()}):
        some = [groups[part] for part in sorted(groups) if (len(groups[part]) - 1).bit_length() == level]
        for cut in (some[:2 ** (k - level)], some[2 ** (k - level):]):
            if cut:
                found.append((level, sorted(row for group in cut for row in group)))
    return found


class Follower:
    """Follows a log entry by entry; guards are (lot, rows, below, above, k)."""

    def __init__(self, question, told, flow):
        self.lot = question.lot
        self.goals = [some for some, _ in flow[0]]
        ks = {}
        for low, high, k in told:
            ks[(low, high)] = min(k, ks.get((low, high), k))
        self.p = sum(n * ks[(low, high)] for low, high, n in flow[1])
        self.D = sum(n for _, n in flow[0])
        self.bag = {}
        for low, high, n in flow[1]:
            k = ks[(low, high)]
            part = [part for part in question.parts if set(high) <= set(part.lot)
                    and degree_at(part.lot, part.rows, low, high) <= 2 ** k][0]
            self.bag[(low, high)] = [(high, rows_at(part.lot, part.rows, high), low, high, k)] * n
        self.ends, self.sizes, self.given_up = [], [], 0

    def is_great(self, k):
        return k * self.D > self.p

    def take(self, bag, low, high):
        need(bag.get((low, high)))
        return bag[(low, high)].pop()

    def put(self, bag, low, high, guard):
        bag.setdefault((low, high), []).append(guard)

    def made(self, rows):
        self.sizes.append(len(rows))
        return rows

    def follow(self, bag, log):
        need(isinstance(log, tuple) and log)
        bag = {term: list(guards) for term, guards in bag.items()}
        for entry in log[:-1]:
            need(isinstance(entry, tuple) and len(entry) >= 2 and entry[1] in all_lots(self.lot))
            getattr(self, "take_" + {"give up": "give_up"}.get(entry[0], entry[0]))(bag, *entry[1:])
        name, Z, *more = log[-1]
        lot, rows, _, _, k = self.take(bag, (), Z)
        need(not self.is_great(k))
        if name == "goal":
            need(more == [] and Z in self.goals)
            self.ends.append((Z, rows))
            return
        need(name == "cut" and len(more) == 2)
        J, logs = more
        self.need_apart(Z, J)
        need(common(Z, J) != ())
        pieces = pieces_at(Z, rows, common(Z, J), k)
        need(isinstance(logs, tuple) and len(logs) == len(pieces))
        for _, piece in pieces:
            self.made(piece)
            self.made(rows_at(Z, piece, common(Z, J)))
        for (level, piece), inner in zip(pieces, logs):
            branch = {term: list(guards) for term, guards in bag.items()}
            lesser = rows_at(Z, piece, common(Z, J))
            self.put(branch, (), common(Z, J), (common(Z, J), lesser, (), common(Z, J), k - level))
            self.put(branch, J, union(Z, J), (Z, piece, common(Z, J), Z, level))
            self.follow(branch, inner)

    def need_apart(self, Z, J):
        need(J in all_lots(self.lot) and set(Z) - set(J) and set(J) - set(Z))

    def take_spare(self, bag, Z):
        self.take(bag, (), Z)

    def take_drop(self, bag, Z, low):
        lot, rows, _, _, k = self.take(bag, (), Z)
        need(not self.is_great(k) and set(low) < set(Z) and low in all_lots(self.lot))
        if low != ():
            self.put(bag, (), low, (low, self.made(rows_at(lot, rows, low)), (), low, k))

    def take_join(self, bag, Z, high):
        lot, rows, _, _, k = self.take(bag, (), Z)
        need(not self.is_great(k))
        other_lot, other, _, above, more = self.take(bag, Z, high)
        table = None
        if not self.is_great(k + more):
            table = self.made(joined_rows(lot, rows, above, rows_at(other_lot, other, above)))
        self.put(bag, (), high, (high, table, (), high, k + more))

    def take_cut(self, bag, Z, J):
        self.need_apart(Z, J)
        need(common(Z, J) == ())
        lot, rows, _, _, k = self.take(bag, (), Z)
        need(not self.is_great(k))
        self.put(bag, J, union(Z, J), (Z, rows, (), Z, k))

    def take_give_up(self, bag, Z, flow):
        _, _, _, _, k = self.take(bag, (), Z)
        need(self.is_great(k))
        need(flows_plainly(self.lot, flow) and flow[0])
        terms = {(low, high): n for low, high, n in flow[1]}
        for term, n in terms.items():
            need(len(bag.get(term, [])) >= n)
        for term in list(bag):
            bag[term] = bag[term][len(bag[term]) - terms.get(term, 0):]
        self.given_up += 1


def followed_plainly(question, told, flow, log):
    """The follower behind a log that is built of tuples of the right kinds, None if it is none."""
    follower = Follower(question, told, flow)
    try:
        follower.follow(follower.bag, log)
    except (NoLog, AttributeError, TypeError, ValueError):
        return None
    return follower


def skewed_table(chance, lot, many, numbers):
    """A table in which few numbers come often."""
    rows = {tuple(min(int(chance.expovariate(0.4)), numbers - 1) if chance.random() < 0.6 else chance.randrange(numbers)
                  for _ in lot) for _ in range(many)}
    return Table(lot, tuple(rows))


WEBS = (
    ((0, 1), (0, 2), (1, 2)), ((0, 1), (1, 2), (2, 3), (0, 3)), ((0, 1), (0, 2), (0, 3), (1, 2), (1, 3), (2, 3)),
    ((0, 1, 2), (0, 1, 3), (0, 2, 3), (1, 2, 3)), ((0, 1), (1, 2), (2, 3), (3, 4), (0, 4)), ((1, 2, 4), (2, 5), (1, 5)),
    ((0, 1, 2, 3), (0, 1, 2, 4), (0, 1, 3, 4), (0, 2, 3, 4), (1, 2, 3, 4)), ((0,), (0, 3)), ((2,),),
    ((0, 1), (0, 1), (1,)),
)


def drawn_runs(seed, times):
    """Questions with told degrees that they keep, and least flows of these."""
    chance = random.Random(seed)
    for at in range(times):
        web = WEBS[at % len(WEBS)]
        lot = tuple(sorted({letter for some in web for letter in some}))
        many, numbers = chance.choice(((0, 1), (3, 2), (8, 4), (20, 6), (60, 20)))
        question = Question(lot, tuple(skewed_table(chance, some, many, numbers) for some in web))
        pairs = [((), some) for some in web]
        pairs += [(low, some) for some in web for low in all_lots(some)[1:] if low != some and chance.random() < 0.4]
        told = exact_told(question, tuple(pairs[:20]))
        yield question, told, least_bound(lot, told)[2]


def drawn_flow_runs(seed, times):
    """Questions with one part on all letters, told degrees that they keep, and drawn flows of these."""
    chance = random.Random(seed)
    lots = ((0, 4), (0, 1, 2), (1, 2, 3, 5), (0, 1, 2, 3, 4, 5))
    for at in range(times):
        lot = lots[at % len(lots)]
        flow = drawn_flow(chance, lot, chance.choice((1, 3, 6, 9)), chance.choice((1, 3)), lot)
        if flow[0] == () or len(flow[1]) > 20 or sum(n for things in flow[1:] for *_, n in things) > 200:
            continue
        many, numbers = chance.choice(((3, 2), (9, 3), (40, 6)))
        parts = [skewed_table(chance, lot, many, numbers)]
        parts += [skewed_table(chance, chance.choice(all_lots(lot)), many, numbers) for _ in range(3)]
        chance.shuffle(parts)
        question = Question(lot, tuple(parts))
        yield question, exact_told(question, tuple(term[:2] for term in flow[1])), flow


class Leader:
    """Leads logs from a flow as [10.4] and [10.5] tell, by chance where these leave a choice."""

    def __init__(self, chance, question, told, flow):
        self.chance = chance
        self.follower = Follower(question, told, flow)
        self.lot = question.lot
        self.flow = flow

    def log(self):
        return self.led(self.follower.bag, self.flow)

    def led(self, bag, flow):
        bag = {term: list(guards) for term, guards in bag.items()}
        entries = []
        while True:
            Z = self.chance.choice([high for (low, high), guards in sorted(bag.items()) if low == () and guards])
            great = self.follower.is_great(bag[((), Z)][-1][4])
            if not great and Z in self.follower.goals:
                return tuple(entries) + (("goal", Z),)
            entry, flow = self.entry(flow, Z, great)
            if entry[0] == "cut" and common(Z, entry[2]) != ():
                return tuple(entries) + (entry + (self.led_pieces(bag, flow, *entry[1:]),),)
            getattr(self.follower, "take_" + {"give up": "give_up"}.get(entry[0], entry[0]))(bag, *entry[1:])
            entries.append(entry)

    def led_pieces(self, bag, flow, Z, J):
        lot, rows, _, _, k = bag[((), Z)].pop()
        logs = []
        for level, piece in pieces_at(Z, rows, common(Z, J), k):
            branch = {term: list(guards) for term, guards in bag.items()}
            lesser = rows_at(Z, piece, common(Z, J))
            self.follower.put(branch, (), common(Z, J), (common(Z, J), lesser, (), common(Z, J), k - level))
            self.follower.put(branch, J, union(Z, J), (Z, piece, common(Z, J), Z, level))
            logs.append(self.led(branch, flow))
        return tuple(logs)

    def entry(self, flow, Z, great):
        """The entry for one term ((), Z), and the flow that is left behind it."""
        goals, terms, crossings, drops = [{thing[:-1]: thing[-1] for thing in things} for things in flow]
        left = [goals, terms, crossings, drops]
        over = inflows(flow).get(Z, 0) - goals.get((Z,), 0)
        if great and over == 0:
            led = without(self.lot, flow, Z)
            return ("give up", Z, led), led
        add(terms, ((), Z), -1)
        if over > 0:
            return ("spare", Z), told_flow(left)
        ways = [("drop", Z, low) for low, high in drops if high == Z] + [("join", Z, high) for low,
                                                                         high in terms if low == Z]
        ways += [("cut", Z, other) for one, other in crossings if one == Z]
        ways += [("cut", Z, one) for one, other in crossings if other == Z]
        entry = self.chance.choice(sorted(ways))
        way = entry[2]
        if entry[0] == "drop":
            add(drops, (way, Z), -1)
            add(terms, ((), way), 1)
        elif entry[0] == "join":
            add(terms, (Z, way), -1)
            add(terms, ((), way), 1)
        else:
            add(crossings, tuple(sorted((Z, way))), -1)
            add(terms, ((), common(Z, way)), 1)
            add(terms, (way, union(Z, way)), 1)
        return entry, told_flow(left)


def add(counts, pair, n):
    if pair != ((), ()):
        counts[pair] = counts.get(pair, 0) + n
        if counts[pair] == 0:
            del counts[pair]


def told_flow(left):
    return tuple(tuple(pair + (n,) for pair, n in sorted(counts.items())) for counts in left)
