"""What the tests of claims share: papers added up from the words of the document, drawn claims, and wrong ones."""

from crestjoin.table.tables import Table
from tests.folds import is_tree_plainly
from tests.runs import degree_at
from tests.support import (
    BOOLS, HUGE, LONG_NUMBERS, OBJECTS, ODD, added, all_lots, flows_plainly, is_triple_plainly, made_plainly, part_of,
    ranks_plainly,
)
from tests.test_maps import answer_plainly
from tests.test_webs import is_stuck_plainly

PAIRS = (("below", "above"), ("holds", "fails"), ("cover", "packing"), ("at most", "more"), ("folds", "stuck"),
         ("within", "beyond"), ("few", "many"))
OPPOSITE = {**dict(PAIRS), **{other: one for one, other in PAIRS}}


def dot(one, other):
    return sum(first * second for first, second in zip(one, other))


def letters_of(lots):
    return sorted({letter for lot in lots for letter in lot})


def shows_below(claim, paper):
    _, lot, told, p, D = claim
    goals, terms, _, _ = paper
    ks = {}
    for low, high, k in told:
        ks[(low, high)] = min(k, ks.get((low, high), k))
    if not flows_plainly(lot, paper) or [some for some, _ in goals] != [lot]:
        return False
    if not all((low, high) in ks for low, high, _ in terms):
        return False
    return sum(n * ks[(low, high)] for low, high, n in terms) * D <= p * goals[0][1]


def shows_above(claim, paper):
    _, lot, told, p, D = claim
    s, h = paper
    return s >= 1 and ranks_plainly(lot, h) and all(h[high] - h[low] <= s * k for low, high, k in told) and (
        D * h[lot] > p * s)


def shows_holding(claim, paper):
    _, lot, total = claim
    E, crossings, drops = paper
    if E < 1 or not all(is_triple_plainly(lot, triple) for triple in crossings + drops):
        return False
    if not all(set(low) < set(high) for low, high, _ in drops):
        return False
    if not all(one < other and set(one) - set(other) and set(other) - set(one) for one, other, _ in crossings):
        return False
    return made_plainly(crossings, drops) == added([(some, E * n) for some, n in total.items()])


def shows_failing(claim, paper):
    return ranks_plainly(claim[1], paper) and sum(n * paper[some] for some, n in claim[2].items()) < 0


def shows_cover(claim, paper):
    _, lots, exponents, p, D = claim
    E, weights = paper
    covered = all(sum(w for lot, w in zip(lots, weights) if letter in lot) >= E for letter in letters_of(lots))
    return E >= 1 and min(weights, default=0) >= 0 and covered and dot(weights, exponents) * D <= p * E


def shows_packing(claim, paper):
    _, lots, exponents, p, D = claim
    E, numbers = paper
    if E < 1 or sorted(numbers) != letters_of(lots) or min(numbers.values(), default=0) < 0:
        return False
    fit = all(sum(numbers[letter] for letter in lot) <= E * k for lot, k in zip(lots, exponents))
    return fit and sum(numbers.values()) * D > p * E


def shows_at_most(claim, paper):
    _, rows, sides, costs, p, D = claim
    E, x = paper
    fit = all(dot(row, x) >= E * side for row, side in zip(rows, sides))
    return E >= 1 and min(x, default=0) >= 0 and fit and dot(costs, x) * D <= p * E


def shows_more(claim, paper):
    _, rows, sides, costs, p, D = claim
    columns = [[row[at] for row in rows] for at in range(len(costs))]
    if paper[0] == "none":
        y = paper[1]
        return min(y, default=0) >= 0 and all(dot(column, y) <= 0 for column in columns) and dot(sides, y) > 0
    E, y = paper[1]
    under = all(dot(column, y) <= E * cost for column, cost in zip(columns, costs))
    return paper[0] == "prices" and E >= 1 and min(y, default=0) >= 0 and under and dot(sides, y) * D > p * E


def shows_within(claim, paper):
    _, one, other = claim
    return sorted(paper) == letters_of([some for _, some in other[1]]) and all(
        paper[letter] == letter for letter in other[0]) and all(
        (name, tuple(paper[letter] for letter in some)) in one[1] for name, some in other[1])


def shows_beyond(claim, paper):
    return not set(answer_plainly(claim[1], paper)) <= set(answer_plainly(claim[2], paper))


def shows_few(claim, paper):
    _, lot, parts, p, D = claim
    told, flow = paper
    kept = all(any(set(high) <= set(some) and degree_at(some, rows, low, high) <= 2 ** k for some, rows in parts)
               for low, high, k in told)
    return len(told) <= 20 and kept and shows_below(("below", lot, told, p, D), flow)


def shows_many(claim, paper):
    _, lot, parts, p, D = claim
    return len(set(paper)) == len(paper) and len(paper) ** D > 2 ** p and all(
        part_of(lot, row, some) in rows for row in paper for some, rows in parts)


SHOWS = {
    "below": shows_below, "above": shows_above, "holds": shows_holding, "fails": shows_failing, "cover": shows_cover,
    "packing": shows_packing, "at most": shows_at_most, "more": shows_more, "folds": lambda claim, paper:
    is_tree_plainly(claim[1], paper), "stuck": lambda claim, paper: is_stuck_plainly(claim[1], paper),
    "within": shows_within, "beyond": shows_beyond, "few": shows_few, "many": shows_many,
}


def shows(claim, paper):
    """Whether a paper of the right form shows the claim, added up by the test's own sums."""
    return SHOWS[claim[0]](claim, paper)


def opposed(claim):
    return (OPPOSITE[claim[0]],) + claim[1:]


def parts_of(question):
    """The parts of a question as a claim tells them."""
    return tuple((part.lot, part.rows) for part in question.parts)


def drawn_total(chance, lot):
    lots = all_lots(lot)[1:]
    return {some: chance.choice((-2, -1, 1, 1, 2, 3)) for some in chance.sample(lots, min(len(lots), chance.randint(0, 5)))}


ABC, SIDES = (0, 1, 2), (((), (0, 1), 4), ((), (0, 2), 4), ((), (1, 2), 4))
RING = ((0, 1), (0, 2), (1, 2))
STEP = ((0,), (("e", (0, 1)),))
ROAD = ((0,), (("e", (0, 1)), ("e", (1, 2))))
ROWS = ((0, 1), (0, 2), (1, 1))
RIGHT_CLAIMS = (
    ("below", ABC, SIDES, 6, 1), ("below", (5,), (), 0, 1), ("below", (0, 1, 2, 3, 4), (((), (0,), 20),) * 20, 10000, 1000),
    ("holds", ABC, {(0, 1): 1, (0, 1, 2): -HUGE}), ("holds", (2,), {}), ("holds", (2,), {(2,): 0}),
    ("cover", RING, (2, 0, 20), 3, 1), ("cover", (), (), 0, 1), ("cover", ((),) * 12, (5,) * 12, 10000, 1000),
    ("at most", ((1, 1), (0, -1)), (1, 2), (1, 0), -10000, 1000), ("at most", (), (), (), 10000, 1),
    ("at most", ((HUGE,) * 12,) * 24, (-HUGE,) * 24, (HUGE,) * 12, 1, 1), ("at most", ((), ()), (1, 0), (), 0, 1),
    ("folds", RING), ("folds", ()), ("folds", ((0, 1, 2, 3, 4, 5),)), ("folds", ((),) * 12),
    ("within", ROAD, STEP), ("within", ((), ()), ((), (("e", ()),))),
    ("few", (0, 1), (((0, 1), ROWS),), 2, 1), ("few", (4,), (((), ()), ((4,), ((-HUGE,), (HUGE,)))), 0, 1),
    ("few", (0,), (((0,), ()),) * 12, 10000, 1000), ("few", (0,), (((0,), tuple((n,) for n in range(1000))),), 9, 1),
)
WRONG_CLAIMS = ODD + OBJECTS + BOOLS + LONG_NUMBERS + (
    0, (), ("below",), ("folds",), ("few",), (0, RING), (None, RING), (("folds",), RING), ("fold", RING), ("at_most", ()),
    ("below", (), SIDES, 6, 1), ("below", (0, 1, 2, 3, 4, 5), (), 6, 1), ("below", (1, 0), (), 6, 1),
    ("below", ABC, (((), (0, 3), 1),), 6, 1), ("below", ABC, (((), (0, 1), 21),), 6, 1), ("below", ABC, None, 6, 1),
    ("below", ABC, SIDES * 7, 6, 1), ("below", ABC, SIDES, -1, 1), ("below", ABC, SIDES, 10001, 1),
    ("below", ABC, SIDES, 6, 0), ("below", ABC, SIDES, 6, 1001), ("below", ABC, SIDES, 6), ("below", ABC, SIDES, 6, 1, 1),
    ("below", ABC, SIDES, True, 1), ("below", ABC, SIDES, 6, True), ("below", ABC, SIDES, HUGE, 1),
    ("above", ABC, SIDES, 6, None), ("above", None, SIDES, 6, 1), ["below", ABC, SIDES, 6, 1],
    ("holds", (), {}), ("holds", (0, 1, 2, 3, 4, 5), {}), ("holds", ABC, {(): 1}), ("holds", ABC, {(3,): 1}),
    ("holds", ABC, {(0,): True}), ("holds", ABC, {(0,): None}), ("holds", ABC, {0: 1}), ("holds", ABC, {(1, 0): 1}),
    ("fails", ABC, ()), ("fails", ABC), ("fails", ABC, {}, {}), ("holds", ABC, {(True,): 1}), ("holds", ABC, {"0": 1}),
    ("cover", RING, (2, 2), 3, 1), ("cover", RING, (2, 2, 21), 3, 1), ("cover", RING, (2, 2, -1), 3, 1),
    ("cover", RING, (2, 2, True), 3, 1), ("cover", RING, [2, 2, 2], 3, 1), ("cover", ((),) * 13, (0,) * 13, 3, 1),
    ("cover", ((6,),), (0,), 3, 1), ("cover", RING, (2, 2, 2), -1, 1), ("cover", RING, (2, 2, 2), 3, 0),
    ("packing", RING, (2, 2, 2), 3), ("packing", None, (), 3, 1), ("packing", RING, (2, 2, 2), 10001, 1),
    ("at most", ((1,),), (1,), (1,), -10001, 1), ("at most", ((1,),), (1,), (1,), 10001, 1),
    ("at most", ((1,),), (1,), (1,), 1, 0), ("at most", ((1,),), (1,), (1,), 1, 1001), ("at most", ((1,),), (1, 1), (1,), 1, 1),
    ("at most", ((1, 1),), (1,), (1,), 1, 1), ("at most", ((1,), (1, 1)), (1, 1), (1,), 1, 1),
    ("at most", ((1,),) * 25, (1,) * 25, (1,), 1, 1), ("at most", ((1,) * 13,), (1,), (1,) * 13, 1, 1),
    ("more", ((True,),), (1,), (1,), 1, 1), ("more", ((1,),), (None,), (1,), 1, 1), ("more", ((1,),), (1,), [1], 1, 1),
    ("more", ((1,),), (1,), (1,), True, 1), ("more", ((1,),), (1,), (1,), 1), ("more", ([1],), (1,), (1,), 1, 1),
    ("folds", RING, ()), ("folds", None), ("folds", ((1, 0),)), ("folds", ((),) * 13), ("stuck", [()]), ("stuck", ((6,),)),
    ("within", ROAD), ("within", ROAD, None), ("within", None, ROAD), ("within", ROAD, ((), (("e", (0, 1)),))),
    ("beyond", ((0,), ()), ((0,), ())), ("beyond", ROAD, STEP, STEP), ("beyond", ROAD, ((0,), (("E", (0,)),))),
    ("few", (), (), 0, 1), ("few", (), (((), ((),)),), 0, 1), ("few", (0, 1, 2, 3, 4, 5), (((0, 1, 2, 3, 4, 5), ()),), 0, 1),
    ("few", (0, 1), (), 0, 1), ("few", (0, 1), (((0,), ()),), 0, 1), ("few", (0,), (((0, 1), ()),), 0, 1),
    ("few", (0, 1), (((0, 1), ROWS[::-1]),), 2, 1), ("few", (0, 1), (((0, 1), ROWS[:1] * 2),), 2, 1),
    ("few", (0, 1), (((0, 1), list(ROWS)),), 2, 1), ("few", (0, 1), (((0, 1), ((0, 1, 2),)),), 2, 1),
    ("few", (0, 1), (((0, 1), ((0, True),)),), 2, 1), ("few", (0, 1), (((0, 1), (None,)),), 2, 1),
    ("few", (0, 1), (((0, 1), ROWS),) * 13, 2, 1), ("few", (0, 1), (((0, 1), ROWS, 0),), 2, 1),
    ("few", (0, 1), ((Table((0, 1), ROWS),),), 2, 1), ("few", (0, 1), (Table((0, 1), ROWS),), 2, 1),
    ("few", (0,), (((0,), tuple((n,) for n in range(1001))),), 9, 1), ("many", (0, 1), (((0, 1), ROWS),), -1, 1),
    ("many", (0, 1), (((0, 1), ROWS),), 2, 0), ("many", (0, 1), (((0, 1), ROWS),), 10001, 1),
    ("many", (0, 1), [((0, 1), ROWS)], 2, 1), ("many", (0, 1), (((0, 1), ROWS),), 2), ("many", (0, 1), (((1, 0), ROWS),), 2, 1),
    ("few", (0, 1), (((0, 1), "ab"),), 2, 1), ("few", (0, 1), None, 2, 1), ("few", (0, 1), ((None, ROWS),), 2, 1),
)
