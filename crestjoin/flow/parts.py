"""Tables cut in pieces, by how many rows there are above each row on a lesser lot [stage 11]."""

from crestjoin.base.checks import check_number, is_between, is_pair
from crestjoin.base.lots import check_lot
from crestjoin.base.numbers import MOST_K, power_for
from crestjoin.errors import InvalidOperation
from crestjoin.table.tables import Table, above, check_lots_of, check_table, degree, parts_at, table_of

MOST_PIECES = 50


def level_of(number):
    """The least j with 2 ** j >= number."""
    check_number(number, 1)
    return power_for(number)


def groups_of(table, low):
    """The dict from the rows on `low` to how many rows their groups have."""
    check_table(table)
    return above(table, low, table.lot)


def _check_cut(table, low, k):
    check_table(table)
    check_lot(low)
    check_number(k, 0, MOST_K)
    check_lots_of(table, (low,))
    if len(table) > 1 << k:
        raise InvalidOperation("the table has at most 2 ** k rows")


def parted(table, low, k):
    """The tuple of the pairs (j, piece): by levels, of each one the first groups ahead of the rest."""
    _check_cut(table, low, k)
    return pieces_of(table, low, k)


def pieces_of(table, low, k):
    """The pieces of `parted`, for a k of any size."""
    groups = {}
    for part, row in sorted(list(zip(parts_at(table.rows, table.lot, low), table.rows))):
        groups.setdefault(part, []).append(row)
    levels = {}
    for group in groups.values():
        levels.setdefault(level_of(len(group)), []).append(group)
    pieces = []
    for level in sorted(levels):
        first = 1 << (k - level)
        for some in (levels[level][:first], levels[level][first:]):
            if some != []:
                pieces.append((level, table_of(table.lot, [row for group in some for row in group])))
    return tuple(pieces)


def is_parted(table, low, k, value):
    """Whether the value is pieces of the table, whoever made them."""
    _check_cut(table, low, k)
    if not isinstance(value, tuple) or len(value) > most_parts(k):
        return False
    if not all([_is_piece(table, low, k, one) for one in value]):
        return False
    rows = [row for _, piece in value for row in piece.rows]
    return tuple(sorted(rows)) == table.rows


def _is_piece(table, low, k, value):
    if not is_pair(value) or not is_between(value[0], 0, k) or not isinstance(value[1], Table):
        return False
    level, piece = value
    if piece.lot != table.lot or len(piece) == 0 or degree(piece, (), low) > 1 << (k - level):
        return False
    return degree(piece, low, piece.lot) <= 1 << level


def most_parts(k):
    """The most pieces that there can be."""
    check_number(k, 0, MOST_K)
    return 2 * k + 1


def put_together(pieces):
    """The table with the rows of all pieces."""
    if not isinstance(pieces, tuple) or not 1 <= len(pieces) <= MOST_PIECES:
        raise InvalidOperation("pieces are a tuple of 1 to 50 pairs (j, piece)")
    if not all([_is_level_and_table(one) for one in pieces]):
        raise InvalidOperation("pieces are pairs of an integer from 0 to 20 and a table")
    lot = pieces[0][1].lot
    if not all([piece.lot == lot for _, piece in pieces]):
        raise InvalidOperation("all pieces are on one lot")
    return table_of(lot, [row for _, piece in pieces for row in piece.rows])


def _is_level_and_table(value):
    return is_pair(value) and is_between(value[0], 0, MOST_K) and isinstance(value[1], Table)
