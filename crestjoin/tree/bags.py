"""Trees of bags: webs of greater lots that fold, in which each lot of a web has its place [stage 18]."""

from itertools import permutations

from crestjoin.base.checks import are_from_nought, is_pair
from crestjoin.base.lots import are_lots, common_lot, is_within, lots_on
from crestjoin.errors import InvalidLot, InvalidOperation
from crestjoin.flow.least import least_answer
from crestjoin.letter.search import check_order
from crestjoin.rank.degrees import check_told
from crestjoin.rank.ranks import MOST_LETTERS
from crestjoin.table.joins import Question, answer, check_question
from crestjoin.table.tables import project
from crestjoin.tree.webs import MOST_PARTS, check_web, fold_answer, is_tree, tree_answer

NO_BOUND = (0, 1)


def is_bags(lots, value):
    """Whether the value is a tree of bags for the web."""
    check_web(lots)
    if not is_pair(value) or not are_lots(value[0]) or len(value[0]) > MOST_PARTS:
        return False
    bags, tree = value
    letters = lots_on(lots)
    if not all([is_within(bag, letters) for bag in bags]) or not is_tree(bags, tree):
        return False
    return all([any([is_within(lot, bag) for bag in bags]) for lot in lots])


def check_bags(lots, value):
    """Refuses all but trees of bags for the web."""
    if not is_bags(lots, value):
        raise InvalidOperation("bags are a pair of a web of bags, in which each lot has one, and of a tree over it")


def bags_of(lots, order):
    """The pair of the bags that a sequence of letters makes, ascending, and of any tree over them."""
    check_web(lots)
    check_order(lots_on(lots), order)
    bags = _bags_along(lots, order)
    return (bags, fold_answer(bags)[1])


def _bags_along(lots, order):
    # What is left of a bag behind its letter are letters near to one another: from then on it is a lot like all others.
    left = list(lots)
    bags = list(lots)
    for letter in order:
        bag = lots_on(tuple([lot for lot in left if letter in lot]))
        bags.append(bag)
        rest = tuple([other for other in bag if other != letter])
        left = [lot for lot in left if letter not in lot] + [rest]
    unlike = sorted(set(bags))
    return tuple([bag for bag in unlike if not any([bag != other and is_within(bag, other) for other in unlike])])


def bag_tables(question, bags):
    """The tuple of the tables of all bags."""
    check_question(question)
    check_bags(question.lots, bags)
    return tuple([_bag_table(question, bag) for bag in bags[0]])


def _bag_table(question, bag):
    return answer(Question(bag, tuple([project(part, common_lot(part.lot, bag)) for part in question.parts])))


def bag_answer(question, bags):
    """The pair of the answer, joined of the bag tables, and of how many rows these have."""
    tables = bag_tables(question, bags)
    folding = Question(question.lot, tables)
    return (tree_answer(folding, bags[1])[0], folding.sizes)


def _check_narrow(lots, told):
    check_web(lots)
    letters = lots_on(lots)
    if not 1 <= len(letters) <= MOST_LETTERS:
        raise InvalidLot("the web has one to five letters")
    check_told(letters, told)


def width(lots, told, bags):
    """The greatest of the least bounds of the bags, None if one of them is endless."""
    _check_narrow(lots, told)
    check_bags(lots, bags)
    return _width(lots, told, bags[0], {})


def _width(lots, told, bags, known):
    # `known` are the least bounds of bags that were told of before.
    greatest = NO_BOUND
    for bag in bags:
        if bag not in known:
            known[bag] = _bound_of(lots_on(lots), told, bag)
        if _is_less(greatest, known[bag]):
            greatest = known[bag]
    return greatest


def _bound_of(letters, told, bag):
    if bag == ():
        return NO_BOUND
    found = least_answer(letters, (bag,), told)
    return found[1] if found[0] == "least" else None


def _is_less(one, other):
    # Whether the first bound is below the other one, None being above all others.
    if one is None or other is None:
        return one is not None
    return one[0] * other[1] < other[0] * one[1]


def least_width(lots, told):
    """Any pair of the least width of all trees of bags, and of such a tree."""
    _check_narrow(lots, told)
    return _least_width(lots, told, {})


def _least_width(lots, told, known):
    widths = {}
    letters = list(lots_on(lots))
    for order in permutations(letters):
        bags = _bags_along(lots, order)
        if bags not in widths:
            widths[bags] = _width(lots, told, bags, known)
    best = min(widths)
    for bags, found in widths.items():
        if _is_less(found, widths[best]):
            best = bags
    return (widths[best], (best, fold_answer(best)[1]))


def is_least_width(lots, told, value):
    """Whether the value is what `least_width` tells, whoever made it."""
    _check_narrow(lots, told)
    if not is_pair(value) or not is_bags(lots, value[1]):
        return False
    if value[0] is not None and not are_from_nought(value[0]):
        return False
    known = {}
    return value[0] == _width(lots, told, value[1][0], known) and value[0] == _least_width(lots, told, known)[0]
