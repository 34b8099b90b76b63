"""What the tests share: wrong values of every kind, and ways to see that they are refused or judged."""

import random
from itertools import combinations, product

from crestjoin.errors import InvalidNumber, TooMany
from crestjoin.table.joins import Question
from crestjoin.table.tables import Table

GREATEST = 999999999
LONG = 10 ** 9
LONGEST = 10 ** 99
HUGE = 7 ** 3000

SOME_TABLE = Table((0, 1), ((0, 1), (1, 0), (1, 1)))
SOME_QUESTION = Question((0, 1), (SOME_TABLE,))
DEEP = (((((((0,),),),),),),)
DEEP_LIST = [{"a": [{"b": [{0: (None, [])}]}]}]

# Of every kind that [0.3] names; no lot, no number, and nothing that any function takes but where it is told.
ODD = (
    None, "", "0", "a b\n", "x" * 4000, [], [0], [0, 1], {}, {0: 0}, {0: 1, 1: 0}, {(): 0}, DEEP, DEEP_LIST, (None,),
    ("0",), ([],), ({},), (True,), (False, True), ((True,),), (0, None), ("",), InvalidNumber(3),
)
OBJECTS = (SOME_TABLE, SOME_QUESTION)
BOOLS = (True, False)
LONG_NUMBERS = (LONG, -LONG, LONGEST, -LONGEST)

WRONG_TABLES = ODD + BOOLS + LONG_NUMBERS + (0, 1, (), (0, 1), ((0, 1),), SOME_QUESTION, (SOME_TABLE,))
WRONG_QUESTIONS = ODD + BOOLS + LONG_NUMBERS + (0, 1, (), (0, 1), SOME_TABLE, (SOME_QUESTION,))
WRONG_LOTS = ODD + OBJECTS + BOOLS + LONG_NUMBERS + (
    0, 1, (1, 0), (0, 0), (0, 1, 1), (6,), (0, 6), (-1,), (-1, 0), (LONG,), (0, True), (False,), ((0,), (1,)), ((),),
)


def wrong_numbers(least, most=GREATEST):
    """Values that are no integers from `least` to `most`."""
    return ODD + OBJECTS + BOOLS + LONG_NUMBERS + (least - 1, most + 1, (), (least,))


def wrong_tuples(right):
    """Values that are no tuples of integers like the right one: a number, a kind or the length is wrong."""
    cut = (right[:-1],) if right else ()
    kinds = (list(right), "", None, True, 0, {}, SOME_TABLE, SOME_QUESTION, right + (0,), right + (1,))
    inner = tuple([right[:-1] + (value,) for value in (None, True, False, "1", LONG, -LONG, LONGEST, (1,), [1], {})])
    return cut + kinds + (inner if right else ())


def shown(value):
    """A text that tells a value apart from all others, also True from 1, and tables by their rows."""
    if isinstance(value, Table):
        return f"Table{(value.lot, value.rows)!r}"
    if isinstance(value, Question):
        return f"Question{(value.lot, shown(value.parts))!r}"
    if isinstance(value, (tuple, list)):
        return f"{type(value).__name__}{[shown(inner) for inner in value]!r}"
    if isinstance(value, dict):
        return f"dict{[(shown(key), shown(inner)) for key, inner in value.items()]!r}"
    return repr(value)


KEEPING = {InvalidNumber: "given", TooMany: "most"}


def refused(test, error, call, args, kept=None):
    """The call raises just this error, that keeps just this value, and changes none of its arguments."""
    before = shown(args)
    with test.assertRaises(ValueError) as caught:
        call(*args)
    test.assertIs(type(caught.exception), error, shown(args)[:300])
    if error in KEEPING:
        held = getattr(caught.exception, KEEPING[error])
        test.assertEqual(shown(held), shown(kept), shown(args)[:300])
    test.assertEqual(shown(args), before)


def check_wrongs(test, call, right, wrongs):
    """Each wrong value of each parameter is refused, alone and beside one of a later parameter.

    `wrongs` tells for each parameter a tuple of pairs (error, values).
    """
    call(*right)
    for place, groups in enumerate(wrongs):
        later = [(other, error, value) for other in range(place + 1, len(right)) for error, values in wrongs[other]
                 for value in values]
        for error, values in groups:
            for value in values:
                args = right[:place] + (value,) + right[place + 1:]
                refused(test, error, call, args, value)
                for other, second_error, second in later:
                    # Of two like errors that keep nothing none can be told to come first.
                    if second_error is not error or error in KEEPING:
                        refused(test, error, call, args[:other] + (second,) + args[other + 1:], value)


def with_bools(value):
    """All copies of the value with True in the place of one 1, or False in that of one 0, also in keys."""
    if isinstance(value, bool):
        return []
    if isinstance(value, int):
        return [bool(value)] if value in (0, 1) else []
    if isinstance(value, tuple):
        return [value[:at] + (other,) + value[at + 1:] for at, inner in enumerate(value) for other in with_bools(inner)]
    if isinstance(value, dict):
        copies = [{**value, key: other} for key in value for other in with_bools(value[key])]
        for key in value:
            for other in with_bools(key):
                copies.append({(other if name == key else name): value[name] for name in value})
        return copies
    return []


def with_lists(value):
    """All copies of the value with one of its tuples, also inner ones, as a list."""
    if not isinstance(value, tuple):
        return []
    inner = [value[:at] + (other,) + value[at + 1:] for at, part in enumerate(value) for other in with_lists(part)]
    return [list(value)] + inner


def check_judge(test, judge, right=(), wrong=()):
    """The judge takes all right values, and none of the wrong ones, of copies with bools or lists, of other kinds."""
    for value in right:
        before = shown(value)
        test.assertIs(judge(value), True, before[:300])
        test.assertEqual(shown(value), before)
        for other in with_bools(value) + with_lists(value):
            test.assertIs(judge(other), False, shown(other)[:300])
    texts = [shown(value) for value in right]
    kinds = ODD + OBJECTS + BOOLS + LONG_NUMBERS + (0, 1, -1, HUGE, -HUGE, (HUGE,), (), (0,), (1, ()), (0, 1), ((), ()))
    for value in kinds:
        test.assertIsInstance(judge(value), bool)
    for value in tuple(wrong) + (None, True, [], {}, "", "least", HUGE, SOME_TABLE, SOME_QUESTION):
        if shown(value) not in texts:
            test.assertIs(judge(value), False, shown(value)[:300])


def all_lots(letters):
    """All lots within some letters, ascending, told by `combinations`."""
    return sorted(lot for many in range(len(letters) + 1) for lot in combinations(letters, many))


def part_of(lot, row, some):
    """The part of a row, by a dict from letters to numbers."""
    numbers = dict(zip(lot, row))
    return tuple(numbers[letter] for letter in some)


def all_rows(lot, numbers):
    """All rows on the lot with some numbers."""
    return [row for row in product(numbers, repeat=len(lot))]


def random_table(chance, lot, numbers, many):
    """A table of some rows on the lot, from a chance that is the same in each run."""
    rows = all_rows(lot, numbers)
    return Table(lot, tuple(chance.sample(rows, min(many, len(rows)))))


def tables_on(lot, numbers, seed, times):
    """Some tables on the lot, of few and of many rows, the one without rows among them."""
    chance = random.Random(seed)
    most = len(numbers) ** len(lot)
    return [Table(lot, ())] + [random_table(chance, lot, numbers, chance.randint(0, most)) for _ in range(times)]


def plain_answer(question, numbers):
    """The rows of the answer by trying all rows."""
    return tuple(
        row for row in sorted(all_rows(question.lot, numbers))
        if all(part_of(question.lot, row, part.lot) in set(part.rows) for part in question.parts)
    )


def random_question(chance, letters, numbers, most):
    """A question on all letters of some random parts."""
    while True:
        lots = [tuple(sorted(chance.sample(letters, chance.randint(0, len(letters))))) for _ in range(most)]
        if set(letter for lot in lots for letter in lot) == set(letters):
            break
    size = len(numbers)
    parts = [random_table(chance, lot, numbers, chance.randint(size ** len(lot) // 2, size ** len(lot))) for lot in lots]
    return Question(tuple(letters), tuple(parts))


