"""A bench: tables by names and a question that was asked, told line by line [22.3], [22.4]."""

from crestjoin.base.checks import is_name
from crestjoin.base.lots import lots_on
from crestjoin.cover.covers import cover_answer, exponents_of
from crestjoin.errors import InvalidOperation, ParseError, TooMany, UnknownName
from crestjoin.letter.search import MOST_LETTERS, searched
from crestjoin.table.joins import MOST_PARTS, Question, answer
from crestjoin.table.tables import Table, is_row
from crestjoin.tree.webs import fold_answer
from crestjoin.use.words import lot_at, order_at, row_at, row_word

MOST_TABLES = 12
MOST_HELD = 60
# What stands behind the first word of a line; behind "ask" stand names.
BEHIND = {
    "new": ("name", "lot"), "put": ("name", "row"), "take": ("name", "row"), "answer": (), "bound": (),
    "looks": ("order",), "fold": (), "undo": (),
}


def _meanings(line):
    # The pair of the first word of a line and of what the words behind it mean.
    if not isinstance(line, str):
        raise ParseError(None)
    words = line.split(" ")
    if words[0] == "ask":
        kinds = ["name"] * min(max(len(words) - 1, 1), MOST_PARTS)
    elif words[0] in BEHIND:
        kinds = list(BEHIND[words[0]])
    else:
        raise ParseError(0)
    found = []
    for at, kind in enumerate(kinds):
        meaning = _meaning(kind, words[at + 1]) if at + 1 < len(words) else None
        if meaning is None:
            raise ParseError(at + 1)
        found.append(meaning)
    if len(words) > len(kinds) + 1:
        raise ParseError(len(kinds) + 1)
    return (words[0], found)


def _meaning(kind, word):
    # What the word means as one of this kind, None if it has no meaning.
    if kind == "name":
        return word if is_name(word) else None
    if kind == "lot":
        return lot_at(word)
    if kind == "order":
        return order_at(word)
    row = row_at(word)
    return row if row is not None and len(row) <= MOST_LETTERS else None


def _answer_words(rows):
    if rows == ():
        return "0 rows"
    words = " ".join([row_word(row) for row in rows])
    return f"{len(rows)} rows: {words}"


class Bench:
    """Tables by names and a question that was asked. It changes."""

    def __init__(self):
        self._tables = {}
        self._question = None
        self._lines = []
        # For each line that can be taken back the name and the table that it changed, as it was, and the question.
        self._past = []

    @property
    def lines(self):
        """The lines that were done."""
        return tuple(self._lines)

    @property
    def names(self):
        """The names of all tables, ascending."""
        return tuple(sorted(self._tables))

    @property
    def question(self):
        """The question that was asked, None if there is none."""
        return self._question

    def table(self, name):
        """The table with the name."""
        if not is_name(name) or name not in self._tables:
            raise UnknownName(name)
        return self._tables[name]

    def tell(self, line):
        """Does a line, and returns its reply."""
        word, given = _meanings(line)
        if word == "new":
            reply = self._new(given[0], given[1])
        elif word in ("put", "take"):
            reply = self._change(word, given[0], given[1])
        elif word == "ask":
            reply = self._ask(given)
        elif word == "undo":
            reply = self._undo()
        else:
            reply = self._reply(word, given)
        self._lines.append(line)
        return reply

    def _new(self, name, lot):
        if name in self._tables:
            raise InvalidOperation("no table has a new name")
        if len(self._tables) >= MOST_TABLES:
            raise TooMany(MOST_TABLES)
        return self._hold(name, None, Table(lot, ()))

    def _change(self, word, name, row):
        table = self.table(name)
        if not is_row(table.lot, row) or (row in table) == (word == "put"):
            raise InvalidOperation("a row is put on the table's lot where it is not, and taken where it is")
        if word == "put" and len(table) >= MOST_HELD:
            raise TooMany(MOST_HELD)
        rows = table.rows + (row,) if word == "put" else tuple([other for other in table.rows if other != row])
        return self._hold(name, table, Table(table.lot, rows))

    def _hold(self, name, before, table):
        self._past.append((name, before, self._question))
        self._tables[name] = table
        return f"{name}: {len(table)} rows"

    def _ask(self, names):
        parts = tuple([self.table(name) for name in names])
        question = Question(lots_on(tuple([part.lot for part in parts])), parts)
        self._past.append((None, None, self._question))
        self._question = question
        return str(question)

    def _undo(self):
        if self._past == []:
            raise InvalidOperation("nothing is to be taken back")
        name, before, question = self._past.pop()
        self._question = question
        if before is not None:
            self._tables[name] = before
        elif name is not None:
            del self._tables[name]
        return "undone"

    def _reply(self, word, given):
        question = self._question
        if question is None:
            raise InvalidOperation("a question was asked")
        if word == "answer":
            return _answer_words(answer(question).rows)
        if word == "fold":
            return fold_answer(question.lots)[0]
        if word == "bound":
            p, D = cover_answer(question.lots, exponents_of(question.sizes))[1]
            return f"at most 2 ** ({p} / {D})"
        if tuple(sorted(given[0])) != question.lot:
            raise InvalidOperation("an order has just the letters of the question")
        looks = sum(searched(question, given[0])[1])
        return f"{looks} looks"

    def __len__(self):
        return len(self._tables)

    def __str__(self):
        return f"bench of {len(self._tables)} tables, {len(self._lines)} lines"
