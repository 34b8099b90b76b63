"""Tables made of bits, whose ranks tell just how many rows they have, and bounds that they reach [stage 14]."""

from crestjoin.base.checks import GREATEST, are_between, is_between
from crestjoin.base.lots import are_lots, lots_on, lots_within
from crestjoin.errors import InvalidLot, InvalidOperation, TooMany
from crestjoin.flow.counted import is_lot_within
from crestjoin.rank.degrees import check_p_and_d, check_told
from crestjoin.rank.ranks import check_rank, check_rank_lot, step_times
from crestjoin.table.joins import MOST_PARTS, Question
from crestjoin.table.tables import MOST_ROWS, project, table_of

MOST_SOURCES = 12
MOST_VECTORS = 12


def are_vectors(lot, value):
    """Whether the value is vectors on the lot."""
    check_rank_lot(lot)
    if not isinstance(value, tuple) or len(value) != len(lot):
        return False
    return all([are_between(some, 0, (1 << MOST_SOURCES) - 1) and len(some) <= MOST_VECTORS for some in value])


def _check_vectors(lot, value):
    if not are_vectors(lot, value):
        raise InvalidOperation("vectors are, for each letter, a tuple of at most 12 integers from 0 to 4095")


def vector_rank(lot, vectors):
    """The rank that tells how many of the vectors at a lot's letters are no sums of those ahead of them."""
    _check_vectors(lot, vectors)
    at = dict(zip(lot, vectors))
    return {some: _rank_of([vector for letter in some for vector in at[letter]]) for some in lots_within(lot)}


def _rank_of(vectors):
    # Each vector that is kept has a highest source that no other one kept ahead of it is left with.
    kept = []
    for vector in vectors:
        left = vector
        for other in kept:
            left = min(left, left ^ other)
        if left > 0:
            kept.append(left)
    return len(kept)


def made_table(lot, vectors):
    """The made table: a row for all values of the sources."""
    _check_vectors(lot, vectors)
    rank = _rank_of([vector for some in vectors for vector in some])
    if 1 << rank > MOST_ROWS:
        raise TooMany(MOST_ROWS)
    # A source that turns from 0 to 1 turns the same bits in each row.
    rows = {(0,) * len(lot): True}
    for source in range(MOST_SOURCES):
        turned = [_said_by(some, source) for some in vectors]
        for row in list(rows):
            rows[tuple([number ^ bits for number, bits in zip(row, turned)])] = True
    return table_of(lot, list(rows))


def _said_by(vectors, source):
    # The number at a letter if this source alone is 1.
    return sum([((vector >> source) & 1) << place for place, vector in enumerate(vectors)])


def step_vectors(lot, counts):
    """Vectors whose rank is a sum of steps, each as often as told."""
    check_rank_lot(lot)
    if not isinstance(counts, dict) or not all([is_lot_within(lot, some) and some != () for some in counts]):
        raise InvalidOperation("counts are a dict from lots within the lot other than ()")
    if not all([is_between(many, 0, GREATEST) for many in counts.values()]):
        raise InvalidOperation("counts are integers from 0 on")
    if sum(counts.values()) > MOST_SOURCES:
        raise TooMany(MOST_SOURCES)
    owners = [some for some in sorted(counts) for _ in range(counts[some])]
    return tuple([tuple([1 << source for source, some in enumerate(owners) if letter in some]) for letter in lot])


def beside(lot, one, other):
    """Vectors of both, those of the other one with sources of their own."""
    _check_vectors(lot, one)
    _check_vectors(lot, other)
    needed = _sources_of(one)
    if needed + _sources_of(other) > MOST_SOURCES:
        raise TooMany(MOST_SOURCES)
    both = tuple([first + tuple([vector << needed for vector in second]) for first, second in zip(one, other)])
    if not all([len(some) <= MOST_VECTORS for some in both]):
        raise TooMany(MOST_VECTORS)
    return both


def _sources_of(vectors):
    # The least number of sources, from 0 on, that the vectors need.
    return max([vector.bit_length() for some in vectors for vector in some], default=0)


def step_counts(lot, rank):
    """The dict from all lots within the lot but () to how often their steps come in the sum that the rank is."""
    check_rank(lot, rank)
    return {some: step_times(lot, rank, some) for some in lots_within(lot) if some != ()}


def reaching(lot, lots, vectors):
    """The question whose parts are the made table's projections on the lots."""
    check_rank_lot(lot)
    if not are_lots(lots) or not 1 <= len(lots) <= MOST_PARTS:
        raise InvalidLot("lots are a tuple of 1 to 12 lots")
    _check_vectors(lot, vectors)
    if lots_on(lots) != lot:
        raise InvalidOperation("the letters of the lots are just those of the lot")
    table = made_table(lot, vectors)
    return Question(lot, tuple([project(table, some) for some in lots]))


def is_reached(lot, told, vectors, p, D):
    """Whether the rank of the vectors keeps the told degrees, and comes at the lot to the bound (p, D)."""
    check_rank_lot(lot)
    check_told(lot, told)
    _check_vectors(lot, vectors)
    check_p_and_d(p, D)
    rank = vector_rank(lot, vectors)
    return D * rank[lot] == p and all([rank[high] - rank[low] <= k for low, high, k in told])
