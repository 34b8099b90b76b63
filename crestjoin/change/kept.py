"""Answers that are kept while rows are put into the parts of a question, and taken from them [stage 20]."""

from crestjoin.base.checks import check_number
from crestjoin.base.lots import common_lot, joined_lot, rest_lot
from crestjoin.errors import InvalidTable, Refused, TooMany
from crestjoin.letter.search import longer_rows
from crestjoin.table.joins import MOST_JOINED, Question, answer, check_question
from crestjoin.table.leads import leads_of
from crestjoin.table.tables import MOST_ROWS, degree, is_row, parts_at, section, table_of

MOST_CHANGES = 500


def brought(question, index, row):
    """The pair of the table of all rows that a part's row is a part of, by the other parts, and of the looks."""
    check_question(question)
    _check_row(question, index, row)
    lot = question.lots[index]
    further = rest_lot(question.lot, lot)
    sections = [_section_at(part, lot, row) for part in _others(question, index)]
    # What lies within the changed part is on no further letter: its section tells whether it has the row's part.
    found = [()] if all([len(table) > 0 for table in sections if table.lot == ()]) else []
    looks = []
    for leads in leads_of(sections, further):
        found, many = longer_rows(found, leads, leads)
        looks.append(many)
        if sum(looks) > MOST_JOINED:
            raise TooMany(MOST_JOINED)
    rows = parts_at([row + numbers for numbers in found], lot + further, question.lot)
    return (table_of(question.lot, rows), tuple(looks))


def _check_row(question, index, row):
    check_number(index, 0, len(question) - 1)
    if not is_row(question.lots[index], row):
        raise InvalidTable("the row is a row on the lot of the part")


def _others(question, index):
    return question.parts[:index] + question.parts[index + 1:]


def _section_at(part, lot, row):
    # What the part's rows have on their other letters that agree with a row on the lot.
    shared = common_lot(part.lot, lot)
    return section(part, shared, parts_at([row], lot, shared)[0])


def look_bounds(question, index):
    """The tuple of the products of degrees that the looks at all further letters are at most."""
    check_question(question)
    check_number(index, 0, len(question) - 1)
    known = question.lots[index]
    product = 1
    bounds = []
    for letter in rest_lot(question.lot, known):
        leaders = [part for part in _others(question, index) if letter in part.lot]
        product = product * min([_degree_at(part, known, letter) for part in leaders])
        bounds.append(product)
        known = joined_lot(known, (letter,))
    return tuple(bounds)


def _degree_at(part, known, letter):
    low = common_lot(part.lot, known)
    return degree(part, low, joined_lot(low, (letter,)))


class Kept:
    """The answer of a question, kept while rows are put into its parts and taken from them. It changes."""

    def __init__(self, question):
        self._rows = {row: True for row in answer(question).rows}
        self._question = question
        self._looks = 0
        # For each change the index of its part, its row, whether it was put in, and the rows that it brought or took.
        self._changes = []

    @property
    def question(self):
        """The question, as it is now."""
        return self._question

    @property
    def answer(self):
        """The answer of the question."""
        return table_of(self._question.lot, list(self._rows))

    @property
    def looks(self):
        """How many looks all changes took, also those taken back."""
        return self._looks

    @property
    def changes(self):
        """How many changes can be taken back."""
        return len(self._changes)

    def put(self, index, row):
        """Puts a row into a part: the table of the rows that come to the answer."""
        return self._change(index, row, True)

    def take(self, index, row):
        """Takes a row from a part: the table of the rows that go from the answer."""
        return self._change(index, row, False)

    def _change(self, index, row, is_put):
        _check_row(self._question, index, row)
        part = self._question.parts[index]
        if (row in part) == is_put:
            return table_of(self._question.lot, ())
        if is_put and len(part) >= MOST_ROWS:
            raise TooMany(MOST_ROWS)
        if len(self._changes) >= MOST_CHANGES:
            raise TooMany(MOST_CHANGES)
        table, looks = brought(self._question, index, row)
        if is_put and len(self._rows) + len(table) > MOST_JOINED:
            raise TooMany(MOST_JOINED)
        self._looks = self._looks + sum(looks)
        self._changes.append((index, row, is_put, table.rows))
        self._turn(index, row, is_put, table.rows)
        return table

    def _turn(self, index, row, is_put, rows):
        part = self._question.parts[index]
        if is_put:
            led = part.rows + (row,)
            for one in rows:
                self._rows[one] = True
        else:
            led = [other for other in part.rows if other != row]
            for one in rows:
                del self._rows[one]
        self._question = self._question.with_part(index, table_of(part.lot, led))

    def undo(self):
        """Takes the last change back: the table of the rows that it brought or took."""
        if self._changes == []:
            raise Refused(("undo",))
        index, row, was_put, rows = self._changes.pop()
        self._turn(index, row, not was_put, rows)
        return table_of(self._question.lot, rows)

    def twin(self):
        """An equal one, with its looks and changes, that changes by itself."""
        # The answer is not made again: on the way to it more rows could come than are let.
        other = Kept(Question((), ()))
        other._question = self._question
        other._rows = {row: True for row in self._rows}
        other._looks = self._looks
        other._changes = list(self._changes)
        return other

    def __len__(self):
        return len(self._rows)

    def __contains__(self, x):
        return is_row(self._question.lot, x) and x in self._rows

    def __eq__(self, other):
        return isinstance(other, Kept) and self._question == other._question

    def __str__(self):
        return f"kept {self._question}, {len(self._rows)} rows"
