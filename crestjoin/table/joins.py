"""Joins of tables, and questions with their answers [stage 3]."""

from crestjoin.base.checks import check_number
from crestjoin.base.lots import check_lot, common_lot, joined_lot, lots_on, rest_lot
from crestjoin.errors import InvalidOperation, InvalidQuestion, InvalidTable, TooMany
from crestjoin.table.leads import asked_lead, first_rows, kept_numbers, leads_of
from crestjoin.table.tables import Table, above, check_table, is_row, lot_words, part_at, parts_at, table_of

MOST_PARTS = 12
MOST_JOINED = 100000


def join(one, other):
    """The join of two tables."""
    check_table(one)
    check_table(other)
    shared = common_lot(one.lot, other.lot)
    rest = rest_lot(other.lot, one.lot)
    ends = {}
    for row in parts_at(other.rows, other.lot, shared + rest):
        ends.setdefault(row[:len(shared)], []).append(row[len(shared):])
    parts = parts_at(one.rows, one.lot, shared)
    if sum([len(ends.get(part, ())) for part in parts]) > MOST_JOINED:
        raise TooMany(MOST_JOINED)
    joined = []
    for row, part in zip(one.rows, parts):
        joined.extend([row + end for end in ends.get(part, ())])
    lot = joined_lot(one.lot, other.lot)
    return table_of(lot, parts_at(joined, one.lot + rest, lot))


def join_size(one, other):
    """How many rows the join has, told without making it."""
    check_table(one)
    check_table(other)
    shared = common_lot(one.lot, other.lot)
    counts = above(other, shared, other.lot)
    return sum([many * counts.get(part, 0) for part, many in above(one, shared, one.lot).items()])


def semi(one, other):
    """The table of the rows of the first table that go on in the other one."""
    return _sifted(one, other, True)


def stuck(one, other):
    """The table of the rows of the first table that do not go on in the other one."""
    return _sifted(one, other, False)


def _sifted(one, other, wanted):
    check_table(one)
    check_table(other)
    shared = common_lot(one.lot, other.lot)
    known = {part: True for part in parts_at(other.rows, other.lot, shared)}
    parts = parts_at(one.rows, one.lot, shared)
    return table_of(one.lot, [row for row, part in zip(one.rows, parts) if (part in known) == wanted])


def join_all(tables):
    """The join of all tables of a tuple of 1 to 12."""
    if not _are_tables(tables) or len(tables) == 0:
        raise InvalidTable("tables are a tuple of 1 to 12 tables")
    return answer(Question(lots_on(tuple([table.lot for table in tables])), tables))


def _are_tables(value):
    if not isinstance(value, tuple) or len(value) > MOST_PARTS:
        return False
    return all([isinstance(table, Table) for table in value])


class Question:
    """A lot with tables, its parts, whose lots together are the lot. It never changes."""

    def __init__(self, lot, parts):
        check_lot(lot)
        if not _are_tables(parts) or lots_on(tuple([part.lot for part in parts])) != lot:
            raise InvalidQuestion("parts are a tuple of at most 12 tables whose letters are those of the lot")
        self._lot = lot
        self._parts = parts
        self._lots = tuple([part.lot for part in parts])
        self._sizes = tuple([len(part) for part in parts])

    @property
    def lot(self):
        """The lot of the question."""
        return self._lot

    @property
    def parts(self):
        """The tables, in their sequence."""
        return self._parts

    @property
    def lots(self):
        """The lots of all parts."""
        return self._lots

    @property
    def sizes(self):
        """How many rows all parts have."""
        return self._sizes

    def with_part(self, index, table):
        """The question with another part on the same lot."""
        check_number(index, 0, len(self._parts) - 1)
        check_table(table)
        if table.lot != self._lots[index]:
            raise InvalidOperation("the other part is on the same lot")
        return Question(self._lot, self._parts[:index] + (table,) + self._parts[index + 1:])

    def __len__(self):
        return len(self._parts)

    def __eq__(self, other):
        return isinstance(other, Question) and self._lot == other._lot and self._parts == other._parts

    def __str__(self):
        return f"question on {lot_words(self._lot)}, parts {_words_of(self._lots)}"


def _words_of(lots):
    if lots == ():
        return "none"
    return "; ".join([lot_words(lot) for lot in lots])


def check_question(value):
    """Refuses all but questions."""
    if not isinstance(value, Question):
        raise InvalidQuestion("a question is an object of Question")


def answer(question):
    """The table of all rows on the lot whose part on each part's lot is a row of this part."""
    check_question(question)
    return board(question, len(question.lot))


def board(question, many):
    """The table of the rows on the first letters whose parts there are parts of rows of all parts."""
    check_question(question)
    check_number(many, 0, len(question.lot))
    letters = question.lot[:many]
    rows = first_rows(question.parts)
    for leads in leads_of(question.parts, letters):
        rows = _longer_rows(rows, leads)
    return table_of(letters, rows)


def _longer_rows(rows, leads):
    # Rows with the same numbers at all letters that the leads know go on alike: each such part is led on once,
    # or else many rows with many numbers each, of which none is kept, would take too long.
    places = sorted(set([place for lead in leads for place in lead[1]]))
    found = {}
    longer = []
    for row in rows:
        part = part_at(row, places)
        if part not in found:
            found[part] = kept_numbers(leads, row, asked_lead(leads, row)[1])
        longer.extend([row + (number,) for number in found[part]])
        if len(longer) > MOST_JOINED:
            raise TooMany(MOST_JOINED)
    return longer


def is_answer_row(question, value):
    """Whether the value is a row of the answer, told without making it."""
    check_question(question)
    if not is_row(question.lot, value):
        return False
    return all([parts_at([value], question.lot, part.lot)[0] in part for part in question.parts])
