"""Texts of lots, tables, questions, told degrees and flows, and what has them [22.1], [22.2]."""

from crestjoin.base.lots import check_lot, is_within, lots_on
from crestjoin.errors import ParseError
from crestjoin.flow.counted import are_crossings, are_drops, is_count, is_lot_within
from crestjoin.flow.flows import check_flow, is_flow
from crestjoin.rank.degrees import MOST_TOLD, check_told, is_told
from crestjoin.table.joins import MOST_PARTS, Question, check_question
from crestjoin.table.tables import MOST_ROWS, Table, check_table
from crestjoin.use.words import lot_at, lot_word, number_at, number_word, row_at, row_word

KINDS = ("goal", "term", "cross", "drop")


def lot_text(lot):
    """The text of the lot."""
    check_lot(lot)
    return lot_word(lot)


def table_text(table):
    """The text of the table."""
    check_table(table)
    return _text_of(_table_lines(table))


def question_text(question):
    """The text of the question."""
    check_question(question)
    lines = [line for part in question.parts for line in _table_lines(part)]
    return _text_of([f"question {lot_word(question.lot)}", *lines])


def told_text(lot, told):
    """The text of the told degrees."""
    check_lot(lot)
    check_told(lot, told)
    return _text_of([f"{lot_word(low)} {lot_word(high)} {number_word(k)}" for low, high, k in told])


def flow_text(lot, flow):
    """The text of the flow."""
    check_lot(lot)
    check_flow(lot, flow)
    lines = []
    for kind, things in zip(KINDS, flow):
        for thing in things:
            lots = [lot_word(some) for some in thing[:-1]]
            lines.append(" ".join([kind, *lots, number_word(thing[-1])]))
    return _text_of(lines)


def _table_lines(table):
    return [f"table {lot_word(table.lot)}"] + [row_word(row) for row in table.rows]


def _text_of(lines):
    return "".join([line + "\n" for line in lines])


def _lines_of(text):
    # The lines of a text, without their ends; None for a last one without its end: it is the text of nothing.
    if not isinstance(text, str):
        raise ParseError(None)
    lines = text.split("\n")
    return lines[:-1] if lines[-1] == "" else [*lines[:-1], None]


def _lot_behind(word, line):
    # The lot of a line of this word and of the lot's text, None if it is no such line.
    words = line.split(" ") if line is not None else []
    return lot_at(words[1]) if len(words) == 2 and words[0] == word else None


def read_lot(text):
    """The lot that has the text."""
    if not isinstance(text, str):
        raise ParseError(None)
    lot = lot_at(text)
    if lot is None:
        raise ParseError(0)
    return lot


def _headed(text, word):
    # The pair of the lines and of the lot of the first one, which is headed by the word.
    lines = _lines_of(text)
    lot = _lot_behind(word, lines[0]) if lines != [] else None
    if lot is None:
        raise ParseError(0)
    return (lines, lot)


def read_table(text):
    """The table that has the text."""
    lines, lot = _headed(text, "table")
    rows = []
    for index, line in enumerate(lines[1:]):
        rows.append(_next_row(lot, rows, line, index + 1))
    return Table(lot, tuple(rows))


def _next_row(lot, rows, line, index):
    # The row on the lot that has the line as its text, and can stand behind the rows.
    row = row_at(line) if line is not None else None
    if row is None or len(row) != len(lot) or len(rows) >= MOST_ROWS or (rows != [] and rows[-1] >= row):
        raise ParseError(index)
    return row


def read_question(text):
    """The question that has the text."""
    lines, lot = _headed(text, "question")
    parts = []
    for index, line in enumerate(lines[1:]):
        some = _lot_behind("table", line)
        if some is not None:
            if len(parts) >= MOST_PARTS or not is_within(some, lot):
                raise ParseError(index + 1)
            parts.append((some, []))
        elif parts == []:
            raise ParseError(index + 1)
        else:
            part, rows = parts[-1]
            rows.append(_next_row(part, rows, line, index + 1))
    if lots_on(tuple([part for part, _ in parts])) != lot:
        raise ParseError(len(lines))
    return Question(lot, tuple([Table(part, tuple(rows)) for part, rows in parts]))


def read_told(lot, text):
    """The told degrees on the lot that have the text."""
    check_lot(lot)
    told = []
    for index, line in enumerate(_lines_of(text)):
        one = _counted_lots(line.split(" ")) if line is not None else None
        if not is_told(lot, (one,)) or len(told) >= MOST_TOLD:
            raise ParseError(index)
        told.append(one)
    return tuple(told)


def _counted_lots(words):
    # The lots and the number that have these words as their texts, None if one is the text of nothing.
    values = [lot_at(word) for word in words[:-1]] + [number_at(words[-1])]
    return None if None in values else tuple(values)


def read_flow(lot, text):
    """The flow on the lot that has the text."""
    check_lot(lot)
    lines = _lines_of(text)
    things = {kind: [] for kind in KINDS}
    last = 0
    for index, line in enumerate(lines):
        place, thing = _thing_of(lot, line)
        if place < last:
            raise ParseError(index)
        behind = things[KINDS[place]]
        if behind != [] and behind[-1][:-1] >= thing[:-1]:
            raise ParseError(index)
        behind.append(thing)
        last = place
    flow = tuple([tuple(things[kind]) for kind in KINDS])
    if not is_flow(lot, flow):
        raise ParseError(len(lines))
    return flow


def _thing_of(lot, line):
    # The place of its kind and the thing of a flow that has the line as its text; a place below all others if none has.
    words = line.split(" ") if line is not None else []
    if len(words) < 2 or words[0] not in KINDS:
        return (-1, None)
    thing = _counted_lots(words[1:])
    if thing is None or not _is_thing(lot, words[0], thing):
        return (-1, None)
    return (KINDS.index(words[0]), thing)


def _is_thing(lot, kind, thing):
    if kind == "goal":
        return len(thing) == 2 and is_lot_within(lot, thing[0]) and thing[0] != () and is_count(thing[1])
    if kind == "cross":
        return are_crossings(lot, (thing,))
    return are_drops(lot, (thing,))
