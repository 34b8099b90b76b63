"""Texts [22.1], [22.2]: crestjoin.use.texts."""

import random
import re
import unittest
from itertools import combinations

from crestjoin.errors import InvalidFlow, InvalidLot, InvalidQuestion, InvalidTable, InvalidTold, ParseError
from crestjoin.table.joins import Question, answer, join
from crestjoin.table.tables import Table
from crestjoin.use.texts import (
    flow_text, lot_text, question_text, read_flow, read_lot, read_question, read_table, read_told, table_text, told_text,
)
from tests.folds import SIX
from tests.support import (
    BOOLS, GREATEST, HUGE, LONG, LONG_NUMBERS, OBJECTS, ODD, SOME_QUESTION, SOME_TABLE, WRONG_LOTS, WRONG_QUESTIONS,
    WRONG_TABLES, all_lots, check_wrongs, drawn_flow, flows_plainly, random_question, random_table, refused, shown,
    tables_on, wrong_flows, wrong_told,
)

LOT = r"(-|(?=[a-f])a?b?c?d?e?f?)"
NUMBER = r"(0|-?[1-9][0-9]{0,8})"
ROW = rf"(\.|{NUMBER}(,{NUMBER})*)"
KINDS = ("goal", "term", "cross", "drop")


class Wrong(Exception):
    """A line that is wrong."""


def need(holds, at):
    if not holds:
        raise Wrong(at)


def lot_word(lot):
    return "".join("abcdef"[letter] for letter in lot) or "-"


def lot_at(word):
    return () if word == "-" else tuple("abcdef".index(letter) for letter in word)


def row_at(word):
    return () if word == "." else tuple(int(number) for number in word.split(","))


def table_lines(table):
    return [f"table {lot_word(table.lot)}"] + [",".join(map(str, row)) or "." for row in table.rows]


def question_lines(question):
    return [f"question {lot_word(question.lot)}"] + [line for part in question.parts for line in table_lines(part)]


def told_lines(told):
    return [f"{lot_word(low)} {lot_word(high)} {k}" for low, high, k in told]


def flow_lines(flow):
    return [" ".join([kind] + [lot_word(some) for some in thing[:-1]] + [str(thing[-1])])
            for kind, things in zip(KINDS, flow) for thing in things]


def as_text(lines):
    return "".join(line + "\n" for line in lines)


def lines_of(text):
    """The lines of a text; a last one without its end as one that has no form."""
    lines = text.split("\n")
    return lines[:-1] + ([lines[-1] + "\n"] if lines[-1] else [])


def match(pattern, line, at):
    found = re.fullmatch(pattern, line)
    need(found, at)
    return found


def row_plainly(lot, rows, line, at):
    row = row_at(match(ROW, line, at).group())
    need(len(row) == len(lot) and len(rows) < 1000 and (not rows or rows[-1] < row), at)
    rows.append(row)


def table_plainly(text):
    lines = lines_of(text)
    need(lines, 0)
    lot, rows = lot_at(match(f"table {LOT}", lines[0], 0).group(1)), []
    for at, line in enumerate(lines[1:], 1):
        row_plainly(lot, rows, line, at)
    return (lot, tuple(rows))


def question_plainly(text):
    lines = lines_of(text)
    need(lines, 0)
    lot, parts = lot_at(match(f"question {LOT}", lines[0], 0).group(1)), []
    for at, line in enumerate(lines[1:], 1):
        if line.startswith("table"):
            some = lot_at(match(f"table {LOT}", line, at).group(1))
            need(set(some) <= set(lot) and len(parts) < 12, at)
            parts.append((some, []))
        else:
            need(parts, at)
            row_plainly(parts[-1][0], parts[-1][1], line, at)
    need(set(lot) == {letter for some, _ in parts for letter in some}, len(lines))
    return (lot, tuple((some, tuple(rows)) for some, rows in parts))


def told_plainly(lot, text):
    told = []
    for at, line in enumerate(lines_of(text)):
        found = match(f"{LOT} {LOT} {NUMBER}", line, at)
        low, high, k = lot_at(found.group(1)), lot_at(found.group(2)), int(found.group(3))
        need(set(low) < set(high) <= set(lot) and 0 <= k <= 20 and len(told) < 20, at)
        told.append((low, high, k))
    return tuple(told)


def flow_plainly(lot, text):
    lines, things = lines_of(text), [[], [], [], []]
    for at, line in enumerate(lines):
        found = match(f"(goal {LOT}|(term|cross|drop) {LOT} {LOT}) {NUMBER}", line, at)
        words = line.split(" ")
        kind, lots, n = KINDS.index(words[0]), tuple(map(lot_at, words[1:-1])), int(words[-1])
        need(found and n >= 1 and all(set(some) <= set(lot) for some in lots) and not any(things[kind + 1:]), at)
        if kind == 0:
            need(lots[0] != (), at)
        elif kind == 2:
            need(lots[0] < lots[1] and set(lots[0]) - set(lots[1]) and set(lots[1]) - set(lots[0]), at)
        else:
            need(set(lots[0]) < set(lots[1]), at)
        need(not things[kind] or things[kind][-1][:-1] < lots, at)
        things[kind].append(lots + (n,))
    flow = tuple(map(tuple, things))
    need(flows_plainly(lot, flow), len(lines))
    return flow


def outcome(call, *args):
    """What is read, or the line that is wrong."""
    try:
        return ("read", shown(call(*args)))
    except (Wrong, ParseError) as error:
        return ("wrong", error.args[0])


def bent(chance, text):
    """A text that is bent in one place."""
    lines = text.split("\n")
    way = chance.randrange(9)
    at = chance.randrange(len(lines))
    if way < 3 and text:
        place = chance.randrange(len(text))
        put = chance.choice(("", " ", "0", "-", ",", "1", "a", "c", "f", "\n", ".", "x", "\t", "A", "9"))
        return text[:place] + put + text[place + chance.randrange(2):]
    if way == 3:
        lines.insert(at, lines[chance.randrange(len(lines))])
    elif way == 4:
        del lines[at]
    elif way == 5:
        other = chance.randrange(len(lines))
        lines[at], lines[other] = lines[other], lines[at]
    elif way == 6:
        words = lines[at].split(" ")
        words.insert(chance.randrange(len(words) + 1), chance.choice(words + ["", "0", "ab", "-"]))
        lines[at] = " ".join(words)
    elif way == 7:
        words = lines[at].split(" ")
        del words[chance.randrange(len(words))]
        lines[at] = " ".join(words)
    else:
        return text + chance.choice(("\n", " ", "0", "\n\n"))
    return "\n".join(lines)


def drawn_texts(seed):
    """Triples of a kind, a lot and a text that the test itself writes."""
    chance = random.Random(seed)
    for lot in ((), (2,), (0, 5), (0, 1, 2), (1, 2, 3, 4), SIX):
        for table in tables_on(lot, (-30, -3, 0, 7, 10, GREATEST), seed, 2) if len(lot) < 3 else [
                random_table(chance, lot, (-1, 0, 12), many) for many in (0, 3, 20)]:
            yield "table", lot, as_text(table_lines(table))
        for many in (1, 2, 4):
            question = random_question(chance, lot, (0, 1), many) if lot else Question(
                (), tuple(random_table(chance, (), (), 1) for _ in range(many)))
            yield "question", lot, as_text(question_lines(question))
        pairs = [(low, high) for high in all_lots(lot) for low in all_lots(high) if low != high]
        for many in (0, 2, 20) if pairs else (0,):
            told = tuple(chance.choice(pairs) + (chance.choice((0, 5, 10, 20)),) for _ in range(many))
            yield "told", lot, as_text(told_lines(told))
        for things in (0, 2, 5, 9) if len(lot) > 1 else ():
            yield "flow", lot, as_text(flow_lines(drawn_flow(chance, lot, things, chance.choice((1, 12)))))
    yield "flow", (3,), "goal d 2\nterm - d 10\n"
    yield "flow", (), ""
    yield "question", (), "question -\n"


def read_both(kind, lot, text):
    """What the program reads, and what the test reads."""
    if kind == "table":
        plain = outcome(table_plainly, text)
        told = outcome(lambda: (lambda table: (table.lot, table.rows))(read_table(text)))
    elif kind == "question":
        plain = outcome(question_plainly, text)
        told = outcome(lambda: (lambda one: (one.lot, tuple((part.lot, part.rows) for part in one.parts)))(
            read_question(text)))
    elif kind == "told":
        plain, told = outcome(told_plainly, lot, text), outcome(read_told, lot, text)
    else:
        plain, told = outcome(flow_plainly, lot, text), outcome(read_flow, lot, text)
    return told, plain


class TextTest(unittest.TestCase):
    def test_lots(self):
        for lot in all_lots(SIX):
            self.assertEqual(lot_text(lot), lot_word(lot))
            self.assertEqual(read_lot(lot_word(lot)), lot)
        for text in ("", "ba", "aa", "g", "A", "a ", " a", "a\n", "--", "-a", "a-", "ab c", "abcdefg", "0", ".", "x" * 4000):
            refused(self, ParseError, read_lot, (text,), 0)

    def test_values_and_their_texts(self):
        """[22.1], [22.2]: the text of a value is what the test writes, and is read to it."""
        chance = random.Random(221)
        for lot in ((), (4,), (0, 2), (1, 2, 5), SIX):
            for table in tables_on(lot, (-GREATEST, -3, 0, 40), 222, 3) if len(lot) < 4 else [
                    random_table(chance, lot, range(-3, 3), 50)]:
                self.assertEqual(table_text(table), as_text(table_lines(table)))
                self.assertEqual(read_table(table_text(table)), table)
            for many in (1, 3, 5):
                question = random_question(chance, lot, (-1, 1), many) if lot else Question((), (Table((), ((),)),) * many)
                self.assertEqual(question_text(question), as_text(question_lines(question)))
                self.assertEqual(read_question(question_text(question)), question)
        self.assertEqual((question_text(Question((), ())), read_question("question -\n")),
                         ("question -\n", Question((), ())))
        for lot in ((0, 1), (0, 1, 2), (1, 2, 3, 5)):
            for at in range(30):
                flow = drawn_flow(chance, lot, at % 8, chance.choice((1, 9, 10 ** 6)))
                self.assertEqual(flow_text(lot, flow), as_text(flow_lines(flow)))
                self.assertEqual(read_flow(lot, flow_text(lot, flow)), flow)
                told = tuple(term[:2] + (at % 21,) for term in flow[1])[:20]
                self.assertEqual(told_text(lot, told), as_text(told_lines(told)))
                self.assertEqual(read_told(lot, told_text(lot, told)), told)
        self.assertEqual((told_text((), ()), read_told((), ""), flow_text((), ((),) * 4), read_flow((), "")),
                         ("", (), "", ((),) * 4))

    def test_texts_of_the_document(self):
        flow = ((((0, 1, 2), 2),), (((), (0, 1), 1), ((), (0, 2), 1), ((), (1, 2), 1)),
                (((0,), (1, 2), 1), ((0, 1), (0, 2), 1)), ())
        text = "goal abc 2\nterm - ab 1\nterm - ac 1\nterm - bc 1\ncross a bc 1\ncross ab ac 1\n"
        self.assertEqual((flow_text((0, 1, 2), flow), read_flow((0, 1, 2), text)), (text, flow))
        self.assertEqual(flow_text((0, 1), ((), (((), (0, 1), 12),), (), ((), (0, 1), 3)[:0])), "term - ab 12\n")
        self.assertEqual(read_flow((0, 1), "goal a 3\nterm - ab 12\ndrop a ab 3\n"),
                         ((((0,), 3),), (((), (0, 1), 12),), (), (((0,), (0, 1), 3),)))

    def test_bent_texts(self):
        """[22.2]: what is bent is read by the test's own words, or the first wrong line is told."""
        chance = random.Random(223)
        seen = {"read": 0, "wrong": 0}
        for kind, lot, text in drawn_texts(224):
            told, plain = read_both(kind, lot, text)
            self.assertEqual((told, told[0]), (plain, "read"))
            for _ in range(120):
                other = bent(chance, text)
                for _ in range(chance.choice((0, 0, 1, 2))):
                    other = bent(chance, other)
                told, plain = read_both(kind, lot, other)
                self.assertEqual(told, plain, (kind, lot, other))
                seen[told[0]] += 1
        self.assertGreater(min(seen.values()), 300)

    def test_each_line_bent(self):
        """A blank too many, a word too many, a digit 0 ahead, a line that is empty, left out or twice."""
        for kind, lot, text in drawn_texts(225):
            lines = text.split("\n")[:-1]
            for at, line in enumerate(lines):
                for worse in (" " + line, line + " ", line.replace(" ", "  ", 1) + ("" if " " in line else " "), line + " 1",
                              "", "-0", line + "\t", line + "\r", line[:-1] + "0" + line[-1] + "x", "table g", line + "-"):
                    other = as_text(lines[:at] + [worse] + lines[at + 1:])
                    told, plain = read_both(kind, lot, other)
                    self.assertEqual((told, plain), (("wrong", at),) * 2, (kind, lot, other))
                for other in (lines[:at] + lines[at + 1:], lines[:at] + [line] + lines[at:], lines[:at + 1] + lines[:at]):
                    told, plain = read_both(kind, lot, as_text(other))
                    self.assertEqual(told, plain, (kind, lot, other))
            if lines:
                self.assertEqual(read_both(kind, lot, text[:-1])[0], ("wrong", len(lines) - 1))


class LineTest(unittest.TestCase):
    """[22.2]: which line is told."""

    def test_tables(self):
        for text, at in (("", 0), ("\n", 0), ("table", 0), ("table\n", 0), ("table ac", 0), ("table ca\n", 0), ("Table ac\n", 0),
                         ("table ac\n1,5\n1,05\n", 2), ("table ac\n1,5\n1,5\n", 2), ("table ac\n1,5\n1,4\n2,2\n", 2),
                         ("table ac\n1,5\n2,5", 2), ("table ac\n1\n", 1), ("table ac\n1,2,3\n", 1), ("table ac\n-0,1\n", 1),
                         ("table ac\n1,5\n\n", 2), ("table ac\n1, 5\n", 1), ("table ac\n+1,5\n", 1), ("table ac\n1,1000000000\n", 1),
                         ("table ac\n1,-1000000000\n", 1), ("table -\n.\n.\n", 2), ("table -\n\n", 1), ("table a\n.\n", 1),
                         ("table -\n0\n", 1), ("table ac\n1,5\ntable ac\n", 2), ("table ac\n1,,5\n", 1), ("table ac\n1,5,\n", 1),
                         (" table ac\n", 0), ("table  ac\n", 0), ("table ac \n", 0), ("table a c\n", 0), ("table ac\r\n", 0),
                         ("table a\n10\n9\n", 2), ("question ac\n", 0), ("x" * 4000, 0), ("table a\n" + "1" * 3900 + "\n", 1)):
            refused(self, ParseError, read_table, (text,), at)
        self.assertEqual(read_table("table a\n-999999999\n-1\n0\n9\n10\n999999999\n").rows,
                         ((-GREATEST,), (-1,), (0,), (9,), (10,), (GREATEST,)))
        self.assertEqual(read_table("table -\n.\n"), Table((), ((),)))
        self.assertEqual(read_table("table f\n"), Table((5,), ()))

    def test_a_thousand_rows_and_more(self):
        rows = [str(number) for number in range(1001)]
        self.assertEqual(len(read_table(as_text(["table b"] + rows[:1000]))), 1000)
        refused(self, ParseError, read_table, (as_text(["table b"] + rows),), 1001)
        great = join(Table((0,), tuple((n,) for n in range(1000))), Table((1,), ((0,), (1,))))
        text = table_text(great)
        self.assertEqual(len(text.split("\n")), 2002)
        refused(self, ParseError, read_table, (text,), 1001)
        part = as_text(["table b"] + rows[:1000])
        self.assertEqual(len(read_question("question b\n" + part * 12).parts), 12)
        refused(self, ParseError, read_question, ("question b\n" + part + as_text(["table b"] + rows),), 1001 + 1002)
        refused(self, ParseError, read_question, ("question b\n" + part * 12 + "table b\n",), 1 + 12 * 1001)
        self.assertEqual(len(question_text(Question((0, 1), (great,))).split("\n")), 2003)

    def test_questions(self):
        for text, at in (("", 0), ("question", 0), ("question ab\n", 1), ("question ab\ntable a\n", 2), ("question -", 0),
                         ("question ab\ntable a\n1\n2\n", 4), ("question a\ntable ab\n", 1), ("question a\n1\n", 1),
                         ("question a\ntable a\n2\ntable a\n1\n3\ntable b\n", 6), ("question a\ntable a\n2\n2\n", 3),
                         ("question a\ntable a\nquestion a\n", 2), ("question a\n\ntable a\n", 1), ("table a\n", 0),
                         ("question a\ntable a", 1), ("question ba\ntable a\n", 0), ("question ab\ntable c\nx\n", 1)):
            refused(self, ParseError, read_question, (text,), at)
        self.assertEqual(read_question("question ab\ntable a\n2\ntable -\ntable ab\n1,1\n").sizes, (1, 0, 1))

    def test_told_degrees(self):
        line = "- ab 4\n"
        for text, at in ((line + "ab ab 1\n", 1), ("ab a 1\n", 0), ("- ab 21\n", 0), ("- ab -1\n", 0), ("- abc 1\n", 0),
                         ("- ab 04\n", 0), ("- ab\n", 0), ("- ab 4 4\n", 0), (line + "\n", 1), (line + line[:-1], 1), ("\n", 0),
                         ("- ba 1\n", 0), (line * 21, 20), ("- - 0\n", 0), ("-  ab 4\n", 0), ("- ab -0\n", 0), ("4\n", 0)):
            refused(self, ParseError, read_told, ((0, 1), text), at)
        self.assertEqual(read_told((0, 1), line * 20), (((), (0, 1), 4),) * 20)
        self.assertEqual(read_told((0, 1), "a ab 20\n- ab 0\n"), (((0,), (0, 1), 20), ((), (0, 1), 0)))

    def test_flows(self):
        right = ["goal ab 1", "term - a 1", "term - b 1", "cross a b 1"]
        self.assertEqual(flow_lines(read_flow((0, 1), as_text(right))), right)
        for lines, at in ((right[:3], 3), (right[:1] + right[2:], 3), (right[1:] + right[:1], 3), (right[::-1], 1), (["goal - 1"], 0),
                          (["goal ab 0"], 0), (["goal ab 1", "term - ab 01"], 1), (["term ab ab 1"], 0), (["term ab - 1"], 0),
                          (["goal ab 1", "goal ab 1"], 1), (["goal ab 1", "goal a 1"], 1), (["cross b a 1"], 0),
                          (["cross a ab 1"], 0), (["cross a a 1"], 0), (right + ["drop a ab 1"], 5), (right + ["drop ab a 1"], 4),
                          (["drop a c 1"], 0), (["term - c 1"], 0), (["goal ab"], 0), (["goal ab 1 1"], 0), (["goal a b 1"], 0),
                          (["term - ab"], 0), (["Term - ab 1"], 0), ([""], 0), (["term - b 1", "term - a 1"], 1), (["steps"], 0),
                          (["term - ab 1000000000"], 0), (["term - ab -1"], 0), (["goal ab 1"], 1), (["cross - a 1"], 0),
                          (["term - a 1", "goal a 1", "x"], 1), (["term - a 1", "term - a 2"], 1), (["term - ab 1", "x y"], 1)):
            refused(self, ParseError, read_flow, ((0, 1), as_text(lines)), at)
        refused(self, ParseError, read_flow, ((0, 1), "term - ab 1"), 0)
        refused(self, ParseError, read_flow, ((0, 1), "goal ab 1"), 0)
        self.assertEqual(read_flow((0, 1), "term - ab 999999999\n")[1], (((), (0, 1), GREATEST),))

    def test_great_flows(self):
        """All kinds of all pairs of lots on four letters."""
        lot = (0, 1, 2, 3)
        lots = all_lots(lot)
        steps = [(low, high) for low in lots for high in lots if set(low) < set(high)]
        crossings = tuple((one, other, 3) for one, other in combinations(lots, 2)
                          if set(one) - set(other) and set(other) - set(one))
        flow = (((lot, 7),), tuple(pair + (10000,) if pair[0] == () else pair + (1,) for pair in steps), crossings,
                tuple(pair + (2,) for pair in steps))
        self.assertTrue(flows_plainly(lot, flow))
        self.assertEqual(read_flow(lot, flow_text(lot, flow)), flow)


class WrongArgumentsTest(unittest.TestCase):
    NO_TEXTS = (ParseError, tuple(value for value in ODD if not isinstance(value, str)) + OBJECTS + BOOLS + LONG_NUMBERS + (
        0, (), ("table a\n",), ["a"], 7))

    def read_none(self, call, args=()):
        for value in self.NO_TEXTS[1]:
            refused(self, ParseError, call, args + (value,), None)

    def test_writing(self):
        check_wrongs(self, lot_text, ((0, 1),), (((InvalidLot, WRONG_LOTS),),))
        check_wrongs(self, table_text, (SOME_TABLE,), (((InvalidTable, WRONG_TABLES),),))
        check_wrongs(self, question_text, (SOME_QUESTION,), (((InvalidQuestion, WRONG_QUESTIONS),),))
        lot = (InvalidLot, WRONG_LOTS)
        check_wrongs(self, told_text, ((0, 1), ()), ((lot,), ((InvalidTold, wrong_told((0, 1))),)))
        check_wrongs(self, flow_text, ((0, 1), ((), (), (), ())), ((lot,), ((InvalidFlow, wrong_flows((0, 1))),)))
        long = ((((0, 1), HUGE),), (((), (0, 1), HUGE),), (), ())
        refused(self, InvalidFlow, flow_text, ((0, 1), long))
        refused(self, InvalidFlow, flow_text, ((0, 1), ((), (((), (0, 1), LONG),), (), ())))

    def test_reading(self):
        for call in (read_lot, read_table, read_question):
            self.read_none(call)
        for call in (read_told, read_flow):
            self.read_none(call, ((0, 1),))
            for value in WRONG_LOTS:
                for text in ("", "x", None):
                    refused(self, InvalidLot, call, (value, text))
        for text in ("x" * 4000, "a b\n", "0"):
            for call in (read_table, read_question):
                refused(self, ParseError, call, (text,), 0)
            for call in (read_told, read_flow):
                refused(self, ParseError, call, ((0, 1), text), 0)

    def test_answers_of_questions_that_were_read(self):
        question = read_question("question abc\ntable ab\n1,1\n1,2\ntable bc\n1,5\n2,6\n")
        self.assertEqual(answer(question).rows, ((1, 1, 5), (1, 2, 6)))


if __name__ == "__main__":
    unittest.main()
