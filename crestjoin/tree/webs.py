"""Webs of lots that fold along a tree, or have a lot that is stuck [stage 16]."""

from crestjoin.base.checks import is_between
from crestjoin.base.lots import are_lots, common_lot, is_lot, is_within, lots_on, lots_within, rest_lot
from crestjoin.errors import InvalidLot, InvalidOperation
from crestjoin.table.joins import check_question, join, semi
from crestjoin.table.tables import table_of

MOST_PARTS = 12


def check_web(value):
    """Refuses all but webs."""
    if not are_lots(value) or len(value) > MOST_PARTS:
        raise InvalidLot("a web is a tuple of at most 12 lots")


def is_tree(lots, value):
    """Whether the value is a tree over the web."""
    check_web(lots)
    if not isinstance(value, tuple) or len(value) != len(lots):
        return False
    if not all([place is None or is_between(place, 0, len(lots) - 1) for place in value]):
        return False
    if lots == ():
        return True
    return value.count(None) == 1 and _do_come_up(value) and _do_hang_together(lots, value)


def _do_come_up(tree):
    # Whether from each place one comes up to the top: no place is passed twice on the way.
    for place in range(len(tree)):
        above = place
        for _ in tree:
            if above is not None:
                above = tree[above]
        if above is not None:
            return False
    return True


def _do_hang_together(lots, tree):
    for letter in lots_on(lots):
        places = [place for place, lot in enumerate(lots) if letter in lot]
        if len([place for place in places if tree[place] is None or letter not in lots[tree[place]]]) != 1:
            return False
    return True


def is_stuck(lots, value):
    """Whether the value is a lot that is stuck."""
    check_web(lots)
    return is_lot(value) and _is_stuck(lots, value)


def _is_stuck(lots, some):
    cut = sorted(set([common_lot(lot, some) for lot in lots]))
    left = [lot for lot in cut if not any([lot != other and is_within(lot, other) for other in cut])]
    if len(some) >= 3 and left == sorted([rest_lot(some, (letter,)) for letter in some]):
        return True
    return len(some) >= 4 and _are_ring(left, some)


def _are_ring(lots, some):
    # Whether they have two letters each and make one ring through all letters: around it one comes back at last.
    if len(lots) != len(some) or not all([len(lot) == 2 for lot in lots]):
        return False
    if not all([len([lot for lot in lots if letter in lot]) == 2 for letter in some]):
        return False
    passed = lots[0]
    while True:
        further = [rest_lot(lot, (passed[-1],))[0] for lot in lots if passed[-1] in lot]
        ahead = [letter for letter in further if letter not in passed]
        if ahead == []:
            return len(passed) == len(some)
        passed = passed + (ahead[0],)


def fold_answer(lots):
    """("folds", tree), or ("stuck", letters) with a lot that is stuck."""
    check_web(lots)
    tree = _hung_tree(lots)
    if is_tree(lots, tree):
        return ("folds", tree)
    return ("stuck", [some for some in lots_within(lots_on(lots)) if _is_stuck(lots, some)][0])


def _hung_tree(lots):
    # Each place is hung where it has most letters in common. Each letter hangs together in a tree exactly if these
    # are one less than the lots with it, and never more: so if any tree will do, this one, with the most, does.
    tree = [None] * len(lots)
    hung = [0]
    while len(hung) < len(lots):
        left = [place for place in range(len(lots)) if place not in hung]
        shared = [(-len(common_lot(lots[place], lots[above])), place, above) for place in left for above in hung]
        _, place, above = min(shared)
        tree[place] = above
        hung.append(place)
    return tuple(tree)


def is_fold(lots, value):
    """Whether the value is what `fold_answer` tells, whoever made it."""
    check_web(lots)
    if not isinstance(value, tuple) or len(value) != 2:
        return False
    if value[0] == "folds":
        return is_tree(lots, value[1])
    return value[0] == "stuck" and is_stuck(lots, value[1])


def check_tree(lots, tree):
    """Refuses all but trees over the web."""
    if not is_tree(lots, tree):
        raise InvalidOperation("the tree is a tree over the web")


def sequence_of(lots, tree):
    """The sequence of all places: again and again the least one whose place above is there."""
    check_tree(lots, tree)
    places = []
    while len(places) < len(tree):
        ready = [place for place, above in enumerate(tree) if above is None or above in places]
        places.append([place for place in ready if place not in places][0])
    return tuple(places)


def reduced(question, tree):
    """The tuple of the parts behind both ways along the tree: each is the answer's projection."""
    check_question(question)
    check_tree(question.lots, tree)
    parts = list(question.parts)
    places = sequence_of(question.lots, tree)[1:]
    for place in reversed(places):
        parts[tree[place]] = semi(parts[tree[place]], parts[place])
    for place in places:
        parts[place] = semi(parts[place], parts[tree[place]])
    return tuple(parts)


def tree_answer(question, tree):
    """The pair of the answer, joined along the tree, and of the sizes of all tables on the way."""
    parts = reduced(question, tree)
    found = table_of((), [()])
    sizes = []
    for place in sequence_of(question.lots, tree):
        found = join(found, parts[place])
        sizes.append(len(found))
    return (found, tuple(sizes))
