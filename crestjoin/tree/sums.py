"""Sums, least sums and truths over answers, plain or led along a tree [stage 17]."""

from crestjoin.base.checks import GREATEST, is_between
from crestjoin.base.lots import common_lot
from crestjoin.errors import InvalidLot, InvalidOperation
from crestjoin.flow.counted import is_lot_within
from crestjoin.table.joins import answer, check_question, is_answer_row
from crestjoin.table.tables import parts_at
from crestjoin.tree.factors import folded_totals
from crestjoin.tree.webs import check_tree, reduced, sequence_of
from crestjoin.tree.worths import LEAST, SUM, check_kind, together, total_of_none, totals_at, worth_of


def _check_weights(question, value):
    if not isinstance(value, tuple) or len(value) != len(question):
        raise InvalidOperation("weights are a tuple with a dict for each part of the question")
    if not all([_are_weights(part, some) for part, some in zip(question.parts, value)]):
        raise InvalidOperation("weights are dicts from just the rows of the parts to integers")


def _are_weights(part, value):
    if not isinstance(value, dict) or len(value) != len(part) or not all([row in part for row in value]):
        return False
    return all([is_between(weight, -GREATEST, GREATEST) for weight in value.values()])


def _check_sum(question, weights, kind, kept):
    _check_weights(question, weights)
    check_kind(kind)
    if not is_lot_within(question.lot, kept):
        raise InvalidLot("the kept lot is a lot within that of the question")


def _check_along(question, tree):
    check_question(question)
    check_tree(question.lots, tree)


def _worths(question, weights, kind):
    return [{row: worth_of(kind, some[row]) for row in part.rows} for part, some in zip(question.parts, weights)]


def plain_sum(question, weights, kind, kept):
    """The dict from the rows on the kept lot that the answer has to the totals of their rows."""
    check_question(question)
    _check_sum(question, weights, kind, kept)
    found = answer(question)
    columns = [
        [worths[some] for some in parts_at(found.rows, found.lot, part.lot)]
        for part, worths in zip(question.parts, _worths(question, weights, kind))
    ]
    made = [together(kind, [column[at] for column in columns]) for at in range(len(found))]
    return totals_at(kind, list(zip(parts_at(found.rows, found.lot, kept), made)))


def tree_sum(question, tree, weights, kind, kept):
    """The same dict, led along a tree: without the answer."""
    _check_along(question, tree)
    _check_sum(question, weights, kind, kept)
    if tree == ():
        return {(): together(kind, ())}
    factors = {}
    for place, part in enumerate(reduced(question, tree)):
        factors[place] = (part.lot, {row: worth_of(kind, weights[place][row]) for row in part.rows})
    edges = [(place, above) for place, above in enumerate(tree) if above is not None]
    return folded_totals(kind, factors, edges, kept)


def _places_below(tree, place):
    return [lower for lower, above in enumerate(tree) if above == place]


def _shared_lot(question, tree, place):
    # The letters that the place's lot has in common with that of the place above.
    if tree[place] is None:
        return ()
    return common_lot(question.lots[place], question.lots[tree[place]])


def _looked_up(part, told):
    # For each row of the part the list of what pairs (lot, dict) tell of its parts there, None where they tell nothing.
    columns = [[worths.get(some) for some in parts_at(part.rows, part.lot, lot)] for lot, worths in told]
    return [[column[at] for column in columns] for at in range(len(part))]


def _told_below(question, tree, place, found):
    return [(_shared_lot(question, tree, lower), found[lower]) for lower in _places_below(tree, place)]


def _totals_on(kind, part, worths, lists, lot):
    # The totals, by parts on the lot, of each row's worth and of all that is told of it; without rows of which some
    # is not told.
    parts = parts_at(part.rows, part.lot, lot)
    pairs = [
        (some, together(kind, [worths[row], *values]))
        for row, some, values in zip(part.rows, parts, lists) if None not in values
    ]
    return totals_at(kind, pairs)


def _notes_of(question, tree, worths, kind):
    found = [{} for _ in tree]
    for place in reversed(sequence_of(question.lots, tree)):
        part = question.parts[place]
        lists = _looked_up(part, _told_below(question, tree, place, found))
        found[place] = _totals_on(kind, part, worths[place], lists, _shared_lot(question, tree, place))
    return found


def notes(question, tree, weights, kind):
    """The tuple of the notes of all places."""
    _check_along(question, tree)
    _check_weights(question, weights)
    check_kind(kind)
    return tuple(_notes_of(question, tree, _worths(question, weights, kind), kind))


def shares(question, tree, weights, kind):
    """The tuple with for each part a dict from all its rows to their shares."""
    _check_along(question, tree)
    _check_weights(question, weights)
    check_kind(kind)
    worths = _worths(question, weights, kind)
    below = _notes_of(question, tree, worths, kind)
    from_above = [{(): together(kind, ())} for _ in tree]
    found = [{} for _ in tree]
    for place in sequence_of(question.lots, tree):
        part = question.parts[place]
        told = [(_shared_lot(question, tree, place), from_above[place])]
        lists = _looked_up(part, told + _told_below(question, tree, place, below))
        found[place] = {row: _share(kind, values) for row, values in zip(part.rows, lists)}
        for at, lower in enumerate(_places_below(tree, place)):
            # To a place below all is told but what it has told itself, which stands behind that from above.
            others = [values[:at + 1] + values[at + 2:] for values in lists]
            lot = _shared_lot(question, tree, lower)
            from_above[lower] = _totals_on(kind, part, worths[place], others, lot)
    return tuple(found)


def _share(kind, values):
    return total_of_none(kind) if None in values else together(kind, values)


def best_row(question, tree, weights):
    """Any row of the answer with the least sum of weights, None if the answer has no rows."""
    _check_along(question, tree)
    _check_weights(question, weights)
    below = _notes_of(question, tree, weights, (LEAST,))
    numbers = {}
    for place in sequence_of(question.lots, tree):
        lot = _shared_lot(question, tree, place)
        some = tuple([numbers[letter] for letter in lot])
        if some not in below[place]:
            return None
        told = _told_below(question, tree, place, below)
        row = _row_with(question.parts[place], weights[place], told, (lot, some, below[place][some]))
        for letter, number in zip(question.lots[place], row):
            numbers[letter] = number
    return tuple([numbers[letter] for letter in question.lot])


def _row_with(part, worths, told, wanted):
    # The first row with this part that has, with all that is told from below, just the least sum.
    lot, some, least = wanted
    for row, here, values in zip(part.rows, parts_at(part.rows, part.lot, lot), _looked_up(part, told)):
        if here == some and None not in values and worths[row] + sum(values) == least:
            return row
    return None


def is_best_row(question, tree, weights, value):
    """Whether the value is what `best_row` tells, whoever made it."""
    _check_along(question, tree)
    _check_weights(question, weights)
    least = _whole_total(question, tree, weights, (LEAST,))
    if not is_answer_row(question, value):
        return least is None and value is None
    places = list(zip(question.lots, weights))
    return sum([some[parts_at([value], question.lot, lot)[0]] for lot, some in places]) == least


def _whole_total(question, tree, weights, kind):
    # The total of the whole answer.
    if tree == ():
        return together(kind, ())
    below = _notes_of(question, tree, _worths(question, weights, kind), kind)
    return below[tree.index(None)].get((), total_of_none(kind))


def count(question, tree):
    """The number of rows of the answer."""
    _check_along(question, tree)
    return _whole_total(question, tree, [{row: 1 for row in part.rows} for part in question.parts], (SUM, 0))
