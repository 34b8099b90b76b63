"""What the tests of trees share: webs with all their trees, questions over them, and wrong trees."""

import random
from itertools import product

from crestjoin.table.joins import Question
from crestjoin.table.tables import Table
from tests.support import BOOLS, HUGE, LONG_NUMBERS, OBJECTS, ODD, random_table

SIX = (0, 1, 2, 3, 4, 5)

# No trees over a web of two places.
WRONG_TREES = ODD + OBJECTS + BOOLS + LONG_NUMBERS + (
    0, (), (None,), (None, None), (0, 1), (1, 0), (0, None), (None, 2), (None, -1), (None, True), (False, None)[::-1],
    [None, 0], (None, "0"), (None, (0,)), (None, 0, 0), (None, HUGE), {0: None, 1: 0},
)


def some_webs(seed, times, letters=SIX, most=6):
    """Webs with lots twice, with () and with lots within others."""
    chance = random.Random(seed)
    yield ()
    yield ((),)
    yield ((), ())
    yield ((0, 1), (0, 1))
    for _ in range(times):
        sizes = chance.choice(((0, 1, 2), (2,), (2, 3), (1, 2, 3, 4)))
        yield tuple(tuple(sorted(chance.sample(letters, min(chance.choice(sizes), len(letters)))))
                    for _ in range(chance.randint(0, most)))


def is_tree_plainly(lots, tree):
    """Whether places and None are a tree, from the words of the document."""
    if lots == ():
        return tree == ()
    if len(tree) != len(lots) or tree.count(None) != 1 or any(place is not None and not 0 <= place < len(lots)
                                                              for place in tree):
        return False
    for place in range(len(lots)):
        passed = set()
        while tree[place] is not None:
            if place in passed:
                return False
            passed.add(place)
            place = tree[place]
    for letter in letters_of(lots):
        tops = [place for place, lot in enumerate(lots) if letter in lot
                and (tree[place] is None or letter not in lots[tree[place]])]
        if len(tops) != 1:
            return False
    return True


def letters_of(lots):
    """All letters of some lots, ascending."""
    return tuple(sorted({letter for lot in lots for letter in lot}))


def all_trees(lots):
    """All trees over a web of few places."""
    places = tuple(range(len(lots)))
    return [tree for tree in product((None,) + places, repeat=len(lots)) if is_tree_plainly(lots, tree)]


def drawn_questions(seed, times):
    """Questions over webs that fold, a part without rows and parts on one lot among them, with all or some trees."""
    chance = random.Random(seed)
    yield Question((), ()), [()]
    yield Question((), (Table((), ()), Table((), ((),)))), [(None, 0), (1, None)]
    for lots in some_webs(seed, times, (0, 1, 2, 3), 4):
        trees = all_trees(lots)
        if trees:
            size = [3 ** len(lot) for lot in lots]
            parts = tuple(random_table(chance, lot, (0, 1, 2), chance.randint(n // 3, n)) for lot, n in zip(lots, size))
            yield Question(letters_of(lots), parts), chance.sample(trees, min(3, len(trees)))
