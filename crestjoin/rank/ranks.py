"""Ranks on lots of at most five letters [stage 7]."""

from crestjoin.base.checks import check_number, is_integer
from crestjoin.base.lots import common_lot, is_lot, is_within, joined_lot, lots_within, rest_lot
from crestjoin.errors import InvalidLot, InvalidOperation, InvalidRank

MOST_LETTERS = 5
MOST_WITH_PARTS = 3


def check_rank_lot(value):
    """Refuses all but the lots of at most five letters."""
    if not is_lot(value) or len(value) > MOST_LETTERS:
        raise InvalidLot("the lot is a lot of at most five letters")


def check_lesser_lot(lot, value):
    """Refuses all but the lots within the lot."""
    if not is_within(value, lot):
        raise InvalidLot("the lesser lot is a lot within the lot")


def check_rank(lot, value):
    """Refuses all but the ranks on the lot, and ahead of them all but the lots of ranks."""
    if rank_fault(lot, value) is not None:
        raise InvalidRank("the rank is a rank on the lot")


def is_rank(lot, value):
    """Whether the value is a rank on the lot."""
    return rank_fault(lot, value) is None


def rank_fault(lot, value):
    """The first fault of the value, None for a rank."""
    check_rank_lot(lot)
    if not _has_form(lot, value):
        return ("form",)
    if value[()] != 0:
        return ("empty",)
    for place, gain in _basic_gains(lot):
        if sum([value[some] * times for some, times in gain.items()]) < 0:
            return place
    return None


def _has_form(lot, value):
    if not isinstance(value, dict) or not all([is_lot(some) for some in value]):
        return False
    return tuple(sorted(value)) == lots_within(lot) and all([is_integer(number) for number in value.values()])


def _basic_gains(lot):
    # The pairs of how an inequality of [7.2] is told as a fault, and of it as a sum, ascending, without ().
    gains = [(("rise", i), _gain([lot], [rest_lot(lot, (i,))])) for i in lot]
    for i in lot:
        for j in rest_lot(lot, tuple(range(i + 1))):
            for some in lots_within(rest_lot(lot, (i, j))):
                one, other = joined_lot(some, (i,)), joined_lot(some, (j,))
                gains.append((("cross", i, j, some), _gain([one, other], [some, joined_lot(one, other)])))
    return gains


def _gain(more, fewer):
    total = {some: 1 for some in more}
    for some in fewer:
        total[some] = -1
    return {some: total[some] for some in sorted(total) if some != ()}


def step_rank(lot, some):
    """The rank that is 1 at each lot that shares a letter with `some`, 0 elsewhere."""
    _check_with_letter(lot, some)
    return _shared_rank(lot, some, 1)


def parity_rank(lot, some):
    """The rank that tells how many letters are shared with `some`, at most one less than it has."""
    _check_with_letter(lot, some)
    return _shared_rank(lot, some, len(some) - 1)


def _check_with_letter(lot, some):
    check_rank_lot(lot)
    check_lesser_lot(lot, some)
    if some == ():
        raise InvalidOperation("a step and a parity are told of a lot with a letter")


def _shared_rank(lot, some, most):
    return {lesser: min(most, len(common_lot(lesser, some))) for lesser in lots_within(lot)}


def sum_rank(lot, one, other):
    """The sum of two ranks."""
    check_rank(lot, one)
    check_rank(lot, other)
    return {lesser: one[lesser] + other[lesser] for lesser in lots_within(lot)}


def scaled_rank(lot, rank, number):
    """The rank so many times."""
    check_rank(lot, rank)
    check_number(number, 0)
    return {lesser: rank[lesser] * number for lesser in lots_within(lot)}


def restricted_rank(lot, rank, some):
    """What the rank tells of the lots within `some`."""
    check_rank(lot, rank)
    check_lesser_lot(lot, some)
    return {lesser: rank[lesser] for lesser in lots_within(some)}


def contracted_rank(lot, rank, some):
    """What the rank has, on the letters that are none of `some`, above what it has at `some`."""
    check_rank(lot, rank)
    check_lesser_lot(lot, some)
    return {lesser: rank[joined_lot(lesser, some)] - rank[some] for lesser in lots_within(rest_lot(lot, some))}


def basic_sums(lot):
    """The tuple of the inequalities of [7.2] as sums, each at least 0 at each rank."""
    check_rank_lot(lot)
    return tuple([gain for _, gain in _basic_gains(lot)])


def rank_parts(lot, rank):
    """The sum of steps, and of the parity of all three letters, that the rank is."""
    check_rank(lot, rank)
    if len(lot) > MOST_WITH_PARTS:
        raise InvalidOperation("ranks on up to three letters are told as such sums")
    steps = {some: step_times(lot, rank, some) for some in lots_within(lot) if some != ()}
    # Only with three letters can the step of all come less than never: each parity stands for one step of
    # each two letters and takes one of all away.
    parities = max(0, -steps.get(lot, 0))
    counts = {("parity", lot): parities}
    for some in steps:
        counts[("step", some)] = steps[some] + _change(len(lot) - len(some), parities)
    return {part: counts[part] for part in sorted(counts) if counts[part] > 0}


def _change(missing, parities):
    if missing > 1:
        return 0
    return parities if missing == 0 else -parities


def step_times(lot, rank, some):
    """How often the step of `some` comes in the one sum of steps that the rank is, also below 0."""
    # It is what its letters add last, less what lots within it take of that.
    total = 0
    for lesser in lots_within(some):
        added = rank[lot] - rank[rest_lot(lot, lesser)]
        total = total + (added if (len(some) - len(lesser)) & 1 == 0 else -added)
    return total
