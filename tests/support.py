"""What the tests share: wrong values of every kind, and ways to see that they are refused or judged."""

import random
from itertools import combinations, product

from crestjoin.change.kept import Kept
from crestjoin.errors import InvalidNumber, ParseError, Refused, TooMany, UnknownName
from crestjoin.table.joins import Question
from crestjoin.table.tables import Table
from crestjoin.use.bench import Bench

GREATEST = 999999999
LONG = 10 ** 9
LONGEST = 10 ** 99
HUGE = 7 ** 3000

SOME_TABLE = Table((0, 1), ((0, 1), (1, 0), (1, 1)))
SOME_QUESTION = Question((0, 1), (SOME_TABLE,))
SOME_KEPT = Kept(SOME_QUESTION)
SOME_BENCH = Bench()
DEEP = (((((((0,),),),),),),)
DEEP_LIST = [{"a": [{"b": [{0: (None, [])}]}]}]

# Of every kind that [0.3] names; no lot, no number, and nothing that any function takes but where it is told.
ODD = (
    None, "", "0", "a b\n", "x" * 4000, [], [0], [0, 1], {}, {0: 0}, {0: 1, 1: 0}, {(): 0}, DEEP, DEEP_LIST, (None,),
    ("0",), ([],), ({},), (True,), (False, True), ((True,),), (0, None), ("",), InvalidNumber(3),
)
OBJECTS = (SOME_TABLE, SOME_QUESTION, SOME_KEPT, SOME_BENCH)
BOOLS = (True, False)
LONG_NUMBERS = (LONG, -LONG, LONGEST, -LONGEST)

WRONG_TABLES = ODD + BOOLS + LONG_NUMBERS + (0, 1, (), (0, 1), ((0, 1),), SOME_QUESTION, (SOME_TABLE,), SOME_KEPT)
WRONG_QUESTIONS = ODD + BOOLS + LONG_NUMBERS + (0, 1, (), (0, 1), SOME_TABLE, (SOME_QUESTION,), SOME_KEPT)
WRONG_LOTS = ODD + OBJECTS + BOOLS + LONG_NUMBERS + (
    0, 1, (1, 0), (0, 0), (0, 1, 1), (6,), (0, 6), (-1,), (-1, 0), (LONG,), (0, True), (False,), ((0,), (1,)), ((),),
)


def wrong_numbers(least, most=GREATEST):
    """Values that are no integers from `least` to `most`."""
    return ODD + OBJECTS + BOOLS + LONG_NUMBERS + (least - 1, most + 1, (), (least,))


def wrong_tuples(right):
    """Values that are no tuples of integers like the right one: a number, a kind or the length is wrong."""
    cut = (right[:-1],) if right else ()
    kinds = (list(right), "", None, True, 0, {}, SOME_TABLE, SOME_QUESTION, right + (0,), right + (1,))
    inner = tuple([right[:-1] + (value,) for value in (None, True, False, "1", LONG, -LONG, LONGEST, (1,), [1], {})])
    return cut + kinds + (inner if right else ())


def shown(value):
    """A text that tells a value apart from all others, also True from 1, and tables by their rows."""
    if isinstance(value, Table):
        return f"Table{(value.lot, value.rows)!r}"
    if isinstance(value, Question):
        return f"Question{(value.lot, shown(value.parts))!r}"
    if isinstance(value, Kept):
        return f"Kept{(shown(value.question), value.answer.rows, value.looks, value.changes)!r}"
    if isinstance(value, Bench):
        return f"Bench{(value.lines, [(name, shown(value.table(name))) for name in value.names], shown(value.question))!r}"
    if isinstance(value, (tuple, list)):
        return f"{type(value).__name__}{[shown(inner) for inner in value]!r}"
    if isinstance(value, dict):
        return f"dict{[(shown(key), shown(inner)) for key, inner in value.items()]!r}"
    return repr(value)


KEEPING = {InvalidNumber: "given", UnknownName: "wanted", TooMany: "most", Refused: "reason", ParseError: "at"}


def refused(test, error, call, args, kept=None):
    """The call raises just this error, that keeps just this value, and changes none of its arguments."""
    before = shown(args)
    with test.assertRaises(ValueError) as caught:
        call(*args)
    test.assertIs(type(caught.exception), error, shown(args)[:300])
    if error in KEEPING:
        held = getattr(caught.exception, KEEPING[error])
        test.assertEqual(shown(held), shown(kept), shown(args)[:300])
    test.assertEqual(shown(args), before)


def check_wrongs(test, call, right, wrongs):
    """Each wrong value of each parameter is refused, alone and beside one of a later parameter.

    `wrongs` tells for each parameter a tuple of pairs (error, values).
    """
    call(*right)
    for place, groups in enumerate(wrongs):
        later = [(other, error, value) for other in range(place + 1, len(right)) for error, values in wrongs[other]
                 for value in values]
        for error, values in groups:
            for value in values:
                args = right[:place] + (value,) + right[place + 1:]
                refused(test, error, call, args, value)
                for other, second_error, second in later:
                    # Of two like errors that keep nothing none can be told to come first.
                    if second_error is not error or error in KEEPING:
                        refused(test, error, call, args[:other] + (second,) + args[other + 1:], value)


def with_bools(value):
    """All copies of the value with True in the place of one 1, or False in that of one 0, also in keys."""
    if isinstance(value, bool):
        return []
    if isinstance(value, int):
        return [bool(value)] if value in (0, 1) else []
    if isinstance(value, tuple):
        return [value[:at] + (other,) + value[at + 1:] for at, inner in enumerate(value) for other in with_bools(inner)]
    if isinstance(value, dict):
        copies = [{**value, key: other} for key in value for other in with_bools(value[key])]
        for key in value:
            for other in with_bools(key):
                copies.append({(other if name == key else name): value[name] for name in value})
        return copies
    return []


def with_lists(value):
    """All copies of the value with one of its tuples, also inner ones, as a list."""
    if not isinstance(value, tuple):
        return []
    inner = [value[:at] + (other,) + value[at + 1:] for at, part in enumerate(value) for other in with_lists(part)]
    return [list(value)] + inner


def check_judge(test, judge, right=(), wrong=()):
    """The judge takes all right values, and none of the wrong ones, of copies with bools or lists, of other kinds."""
    for value in right:
        before = shown(value)
        test.assertIs(judge(value), True, before[:300])
        test.assertEqual(shown(value), before)
        for other in with_bools(value) + with_lists(value):
            test.assertIs(judge(other), False, shown(other)[:300])
    texts = [shown(value) for value in right]
    kinds = ODD + OBJECTS + BOOLS + LONG_NUMBERS + (0, 1, -1, HUGE, -HUGE, (HUGE,), (), (0,), (1, ()), (0, 1), ((), ()))
    for value in kinds:
        test.assertIsInstance(judge(value), bool)
    for value in tuple(wrong) + (None, True, [], {}, "", "least", HUGE, SOME_TABLE, SOME_QUESTION):
        if shown(value) not in texts:
            test.assertIs(judge(value), False, shown(value)[:300])


def all_lots(letters):
    """All lots within some letters, ascending, told by `combinations`."""
    return sorted(lot for many in range(len(letters) + 1) for lot in combinations(letters, many))


def part_of(lot, row, some):
    """The part of a row, by a dict from letters to numbers."""
    numbers = dict(zip(lot, row))
    return tuple(numbers[letter] for letter in some)


def all_rows(lot, numbers):
    """All rows on the lot with some numbers."""
    return [row for row in product(numbers, repeat=len(lot))]


def random_table(chance, lot, numbers, many):
    """A table of some rows on the lot, from a chance that is the same in each run."""
    rows = all_rows(lot, numbers)
    return Table(lot, tuple(chance.sample(rows, min(many, len(rows)))))


def tables_on(lot, numbers, seed, times):
    """Some tables on the lot, of few and of many rows, the one without rows among them."""
    chance = random.Random(seed)
    most = len(numbers) ** len(lot)
    return [Table(lot, ())] + [random_table(chance, lot, numbers, chance.randint(0, most)) for _ in range(times)]


def plain_answer(question, numbers):
    """The rows of the answer by trying all rows."""
    return tuple(
        row for row in sorted(all_rows(question.lot, numbers))
        if all(part_of(question.lot, row, part.lot) in set(part.rows) for part in question.parts)
    )


def random_question(chance, letters, numbers, most):
    """A question on all letters of some random parts."""
    while True:
        lots = [tuple(sorted(chance.sample(letters, chance.randint(0, len(letters))))) for _ in range(most)]
        if set(letter for lot in lots for letter in lot) == set(letters):
            break
    size = len(numbers)
    parts = [random_table(chance, lot, numbers, chance.randint(size ** len(lot) // 2, size ** len(lot)))
             for lot in lots]
    return Question(tuple(letters), tuple(parts))


def union(one, other):
    """The letters of both lots."""
    return tuple(sorted(set(one) | set(other)))


def common(one, other):
    """The letters that both lots have."""
    return tuple(sorted(set(one) & set(other)))


def less(one, other):
    """The letters of the first lot that the other one lacks."""
    return tuple(sorted(set(one) - set(other)))


def ranks_plainly(lot, h):
    """Whether h is a rank by all pairs of lots."""
    lots = all_lots(lot)
    return h[()] == 0 and all(h[x] <= h[y] for x in lots for y in lots if set(x) <= set(y)) and all(
        h[x] + h[y] >= h[common(x, y)] + h[union(x, y)] for x in lots for y in lots)


def some_ranks(lot, seed, times):
    """Ranks from a chance that is the same in each run: sums of steps and of least ones of how many letters."""
    chance = random.Random(seed)
    lots = all_lots(lot)
    for _ in range(times):
        h = dict.fromkeys(lots, 0)
        for _ in range(chance.randint(0, 5)):
            some, most, by = chance.choice(lots), chance.randint(0, 3), chance.choice((1, 2, HUGE))
            h = {x: h[x] + by * min(most, len(common(x, some))) for x in lots}
        yield h


def added(pairs):
    """The sum of pairs (lot, number) as a dict, noughts and () left out."""
    total = {}
    for some, n in pairs:
        total[some] = total.get(some, 0) + n
    return {some: total[some] for some in sorted(total) if some != () and total[some] != 0}


def made_plainly(crossings, drops):
    """The sum that crossings and drops make, from the words of the document."""
    pairs = []
    for one, other, n in crossings:
        pairs += [(one, n), (other, n), (common(one, other), -n), (union(one, other), -n)]
    for low, high, n in drops:
        pairs += [(high, n), (low, -n)]
    return added(pairs)


def inflows(flow):
    """What flows in at each lot but (), from the words of the document."""
    _, terms, crossings, drops = flow
    total = {}
    for low, high, n in terms:
        total[high] = total.get(high, 0) + n
        total[low] = total.get(low, 0) - n
    for some, n in made_plainly(crossings, drops).items():
        total[some] = total.get(some, 0) - n
    return {some: n for some, n in total.items() if some != ()}


def is_triple_plainly(lot, triple):
    """Whether it is two lots within the lot and a whole count from 1 on."""
    return len(triple) == 3 and all(some in all_lots(lot) for some in triple[:2]) and triple[2] >= 1


def flows_plainly(lot, flow):
    """Whether tuples of the right form, without booleans, are a flow."""
    goals, terms, crossings, drops = flow
    if not all(some in all_lots(lot)[1:] and n >= 1 for some, n in goals):
        return False
    if not all(is_triple_plainly(lot, triple) for triple in terms + crossings + drops):
        return False
    if not all(set(low) < set(high) for low, high, _ in terms + drops):
        return False
    if not all(one < other and set(one) - set(other) and set(other) - set(one) for one, other, _ in crossings):
        return False
    for things in flow:
        names = [thing[:-1] for thing in things]
        if list(things) != sorted(things) or len(set(names)) != len(names):
            return False
    told, wanted = inflows(flow), dict(goals)
    return all(told.get(some, 0) >= wanted.get(some, 0) for some in all_lots(lot)[1:])


def drawn_flow(chance, lot, things, most, wanted=None):
    """A flow of some things on the lot; with a wanted lot as its one goal, if anything comes there."""
    lots = all_lots(lot)[1:]
    counts = [{}, {}, {}, {}]

    def put(kind, pair, n):
        counts[kind][pair] = counts[kind].get(pair, 0) + n

    def flow():
        goals = tuple((pair[0], n) for pair, n in sorted(counts[0].items()))
        return (goals,) + tuple(tuple(pair + (n,) for pair, n in sorted(kind.items())) for kind in counts[1:])

    for _ in range(things):
        one, other = sorted((chance.choice(lots), chance.choice(lots)))
        if set(one) - set(other) and set(other) - set(one):
            put(2, (one, other), chance.randint(1, most))
        elif one != other:
            low, high = (one, other) if set(one) < set(other) else (other, one)
            put(chance.choice((1, 3)), (low, high), chance.randint(1, most))
    for some, n in inflows(flow()).items():
        if n < 0:
            put(1, ((), some), -n)
        elif wanted is not None and n > 0 and set(some) < set(wanted) and chance.random() < 0.7:
            put(1, (some, wanted), n)
    for some, n in inflows(flow()).items():
        if n > 0 and (some == wanted or (wanted is None and chance.random() < 0.6)):
            put(0, (some,), chance.randint(1, n))
    return flow()


def wrong_told(lot):
    """Values that are no told degrees on a lot, or on one within it."""
    one = ((), lot, 1)
    return ODD + OBJECTS + BOOLS + LONG_NUMBERS + (
        0, (0,), ((),), one, (one[:2],), (one + (1,),), (((), lot, 21),), (((), lot, -1),), (((), lot, True),),
        (((), lot, None),), (((), lot, "1"),), (((), lot, LONG),), ((lot, lot, 1),), ((lot, (), 1),), (((), (5,), 1),),
        (((5,), lot, 1),), ((None, lot, 1),), ((0, lot, 1),), (((), list(lot), 1),), ([(), lot, 1],), [one],
        (one,) * 21, (((), lot[::-1] + (0,), 1),), {((), lot): 1}, (((), (), 1),), (((), lot, 1), None),
    )


def wrong_flows(lot):
    """Values that are no flows on a lot of two letters or more, or have counts of more than nine digits."""
    a, b = lot[:1], lot[1:2]
    term, goal = ((), lot, 1), (lot, 1)
    return ODD + OBJECTS + BOOLS + LONG_NUMBERS + (
        0, (), ((),) * 3, ((),) * 5, [(), (), (), ()], ((), (), (), []), ((), [], (), ()), ((goal,), (), (), ()),
        (((lot, 2),), (term,), (), ()), (((lot, 0),), (term,), (), ()), (((lot, True),), (term,), (), ()),
        ((((), 1),), (term,), (), ()), (((lot, LONG),), (((), lot, LONG),), (), ()), ((), (((), lot, LONG),), (), ()),
        ((goal, goal), (((), lot, 2),), (), ()), ((), (term, term), (), ()), ((), ((lot, (), 1),), (), ()),
        ((), ((lot, lot, 1),), (), ()), ((), (((), lot, 0),), (), ()), ((), (((), lot, -1),), (), ()),
        ((), (((), lot),), (), ()), ((), (((), lot, None),), (), ()), ((), (((), lot, "1"),), (), ()),
        ((), (((), (5,), 1),), (), ()), ((), (), ((a, b, 1),), ()), ((), (), ((b, a, 1),), ()),
        ((), (), ((a, lot, 1),), ()), ((), (), (((), a, 1),), ()), ((), (term,), (), ((a, lot, 2),)),
        ((), (term,), (), ((lot, a, 1),)), ((), (), (), ((a, lot, 1),)), ((), (((), b, 1), ((), a, 1)), (), ()),
        (None, (), (), ()), (((lot,),), (), (), ()), (((None, 1),), (), (), ()),
        ((), (term,), (), ((a, list(lot), 1),)), {0: ()}, ((), (term + (1,),), (), ()),
    )
