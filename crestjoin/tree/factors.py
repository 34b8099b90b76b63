"""Factors: worths of the rows of tables that hang in a tree, put together place by place.

A *factor* is a pair of letters, in any sequence, and of a dict from rows on them to their worths. Letters that are not
wanted any more are summed out as soon as no other factor has them.
"""

from crestjoin.errors import TooMany
from crestjoin.table.joins import MOST_JOINED
from crestjoin.table.tables import part_at, parts_at
from crestjoin.tree.worths import together, total_of_two, totals_at


def folded_totals(kind, factors, edges, kept):
    """The totals kept by a lot, of factors at places between which the edges make a tree.

    Each row of each factor goes on to a row of all of them: so none that is made has more rows on letters of the lot
    than the totals.
    """
    left = dict(factors)
    for place in factors:
        left[place] = _summed(kind, left[place], _wanted(left, (place,), kept))
    edges_left = list(edges)
    while edges_left:
        # The pair that makes least comes first: by any fixed sequence far more rows could be made than are told.
        one, other = min([(_size(left[one], left[other]), one, other) for one, other in edges_left])[1:]
        left[one] = _merged(kind, left[one], left[other], _wanted(left, (one, other), kept), kept)
        del left[other]
        edges_left = [_led(edge, other, one) for edge in edges_left if edge != (one, other)]
    whole = left[min(left)]
    if len(whole[1]) > MOST_JOINED:
        raise TooMany(MOST_JOINED)
    return totals_at(kind, _pairs_at(whole, kept))


def _pairs_at(factor, wanted):
    # For each row of the factor the pair of its part on the wanted letters, as these stand, and of its worth.
    letters, worths = factor
    return list(zip(parts_at(list(worths), letters, wanted), list(worths.values())))


def _led(edge, gone, place):
    one, other = edge
    return (place if one == gone else one, place if other == gone else other)


def _wanted(factors, places, kept):
    # The letters that are kept or that a factor at another place has.
    others = [letter for place in factors if place not in places for letter in factors[place][0]]
    return sorted(set([*kept, *others]))


def _summed(kind, factor, wanted):
    left = [letter for letter in factor[0] if letter in wanted]
    return (left, totals_at(kind, _pairs_at(factor, left)))


def _shared(one, other):
    return [letter for letter in one[0] if letter in other[0]]


def _size(one, other):
    # How many pairs of rows of both agree.
    shared = _shared(one, other)
    counts = {}
    for part in parts_at(list(one[1]), one[0], shared):
        counts[part] = counts.get(part, 0) + 1
    return sum([counts.get(part, 0) for part in parts_at(list(other[1]), other[0], shared)])


def _merged(kind, one, other, wanted, kept):
    shared = _shared(one, other)
    rest = [letter for letter in other[0] if letter not in shared]
    ends = {}
    for row, worth in _pairs_at(other, shared + rest):
        ends.setdefault(row[:len(shared)], []).append((row[len(shared):], worth))
    letters = [*one[0], *rest]
    left = [letter for letter in letters if letter in wanted]
    places = [letters.index(letter) for letter in left]
    held = [letters.index(letter) for letter in left if letter in kept]
    found, seen = {}, {}
    for row, part in zip(one[1], parts_at(list(one[1]), one[0], shared)):
        for end, worth in ends.get(part, ()):
            longer = row + end
            key = part_at(longer, places)
            made = together(kind, (one[1][row], worth))
            found[key] = total_of_two(kind, found[key], made) if key in found else made
            seen[part_at(longer, held)] = True
        if len(seen) > MOST_JOINED:
            raise TooMany(MOST_JOINED)
    return (left, found)
