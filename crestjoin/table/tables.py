"""Tables: a lot with rows on it, each one once [stage 2]."""

from crestjoin.base.checks import GREATEST, are_between, is_between
from crestjoin.base.lots import check_lot, is_letter, is_within, rest_lot
from crestjoin.errors import InvalidNumber, InvalidOperation, InvalidTable

MOST_ROWS = 1000
MAX_DIGITS = 9


def is_row(lot, value):
    """Whether the value is a row on the lot, with numbers of at most nine digits."""
    check_lot(lot)
    return are_between(value, -GREATEST, GREATEST) and len(value) == len(lot)


def lot_words(lot):
    """The lot as the texts of objects tell it."""
    if lot == ():
        return "no letters"
    return " ".join([str(letter) for letter in lot])


class Table:
    """A lot with rows on it. It never changes."""

    def __init__(self, lot, rows):
        check_lot(lot)
        if not isinstance(rows, tuple) or len(rows) > MOST_ROWS or not all([is_row(lot, row) for row in rows]):
            raise InvalidTable("rows are a tuple of at most 1000 rows on the lot")
        self._lot = lot
        self._known = {row: True for row in rows}
        self._rows = tuple(sorted(self._known))

    @property
    def lot(self):
        """The lot of the table."""
        return self._lot

    @property
    def rows(self):
        """The rows, ascending."""
        return self._rows

    def __len__(self):
        return len(self._rows)

    def __contains__(self, x):
        return is_row(self._lot, x) and x in self._known

    def __eq__(self, other):
        return isinstance(other, Table) and self._lot == other._lot and self._rows == other._rows

    def __str__(self):
        return f"table on {lot_words(self._lot)}, {len(self._rows)} rows"


def table_of(lot, rows):
    """The table of rows that are known to be right: only callers are held to 1000 of them."""
    table = Table(lot, ())
    # A dict keeps the rows as they come: most come in ascending sequence, and are sorted far faster so.
    known = {row: True for row in rows}
    table._known = known
    table._rows = tuple(sorted(known))
    return table


def check_table(value):
    """Refuses all but tables."""
    if not isinstance(value, Table):
        raise InvalidTable("a table is an object of Table")


def check_lots_of(table, lots):
    """Refuses lots of which one is not within the next one, or the last one not within the table's lot."""
    check_table(table)
    for lot in lots:
        check_lot(lot)
    for lesser, greater in zip(lots, lots[1:] + (table.lot,)):
        if not is_within(lesser, greater):
            raise InvalidOperation("each lot is within the next one, the last one within the table's")


def check_same_lot(one, other):
    """Refuses all but two tables on one lot."""
    check_table(one)
    check_table(other)
    if one.lot != other.lot:
        raise InvalidOperation("both tables are on one lot")


def part_at(row, places):
    """The numbers of the row at these places."""
    return tuple([row[place] for place in places])


def parts_at(rows, letters, wanted):
    """The parts of the rows, whose numbers stand as `letters` do, with their numbers as `wanted` stand."""
    places = [letters.index(letter) for letter in wanted]
    if places == list(range(len(letters))):
        return list(rows)
    return [part_at(row, places) for row in rows]


def project(table, lot):
    """The table of the parts of all rows on a lot within the table's."""
    check_lots_of(table, (lot,))
    return table_of(lot, parts_at(table.rows, table.lot, lot))


def degree(table, low, high):
    """The greatest number of rows on `high` above one row on `low`."""
    return max(above(table, low, high).values(), default=0)


def above(table, low, high):
    """The dict from all rows on `low` to how many rows on `high` are above them."""
    check_lots_of(table, (low, high))
    counts = {}
    for part in parts_at(project(table, high).rows, high, low):
        counts[part] = counts.get(part, 0) + 1
    return {part: counts[part] for part in sorted(counts)}


def choose(table, letter, number):
    """The table of the rows that have this number at the letter."""
    check_table(table)
    if not is_letter(letter) or letter not in table.lot:
        raise InvalidNumber(letter)
    if not is_between(number, -GREATEST, GREATEST):
        raise InvalidNumber(number)
    place = table.lot.index(letter)
    return table_of(table.lot, [row for row in table.rows if row[place] == number])


def section(table, lot, row):
    """The table of the parts, on the other letters, of all rows above the row on the lot."""
    check_lots_of(table, (lot,))
    if not is_row(lot, row):
        raise InvalidTable("the row is a row on the lot")
    rest = rest_lot(table.lot, lot)
    led = parts_at(table.rows, table.lot, lot + rest)
    return table_of(rest, [part[len(lot):] for part in led if part[:len(lot)] == row])


def united(one, other):
    """The table of the rows of one of both tables."""
    check_same_lot(one, other)
    return table_of(one.lot, one.rows + other.rows)


def common(one, other):
    """The table of the rows of both tables."""
    check_same_lot(one, other)
    return table_of(one.lot, [row for row in one.rows if row in other])


def less(one, other):
    """The table of the rows of the first table alone."""
    check_same_lot(one, other)
    return table_of(one.lot, [row for row in one.rows if row not in other])


def renamed(table, names):
    """The table with each letter's numbers at the letter to which `names` leads it."""
    check_table(table)
    if not _are_names(table.lot, names):
        raise InvalidOperation("names are a dict from just the letters of the table to unlike letters")
    letters = [names[letter] for letter in table.lot]
    lot = tuple(sorted(letters))
    return table_of(lot, parts_at(table.rows, letters, lot))


def _are_names(lot, value):
    if not isinstance(value, dict) or not all([is_letter(letter) for letter in value]):
        return False
    if tuple(sorted(value)) != lot or not all([is_letter(value[letter]) for letter in lot]):
        return False
    return len(set([value[letter] for letter in lot])) == len(lot)
