"""A bench [22.3], [22.4]: crestjoin.use.bench."""

import random
import re
import unittest
from fractions import Fraction
from itertools import product

from crestjoin.cover.covers import cover_corners
from crestjoin.errors import InvalidOperation, ParseError, TooMany, UnknownName
from crestjoin.table.joins import Question
from crestjoin.table.tables import Table
from crestjoin.use.bench import Bench
from tests.folds import SIX, all_trees
from tests.support import (
    BOOLS, GREATEST, LONG_NUMBERS, OBJECTS, ODD, SOME_BENCH, all_lots, part_of, plain_answer, refused, shown,
)
from tests.test_webs import is_stuck_plainly

NAME = r"[a-z]{1,8}"
LOT = r"(?:-|(?=[a-f])a?b?c?d?e?f?)"
NUMBER = r"(?:0|-?[1-9][0-9]{0,8})"
ROW = rf"(?:\.|{NUMBER}(?:,{NUMBER}){{0,5}})"
ORDER = r"(?:-|(?!.*(.).*\1)[a-f]+)"
WORDS = {"new": (NAME, LOT), "put": (NAME, ROW), "take": (NAME, ROW), "answer": (), "bound": (), "looks": (ORDER,),
         "fold": (), "undo": ()}


def lot_at(word):
    return () if word == "-" else tuple("abcdef".index(letter) for letter in word)


def row_at(word):
    return () if word == "." else tuple(int(number) for number in word.split(","))


def row_word(row):
    return ",".join(map(str, row)) or "."


def wrong_word(line):
    """The index of the first word that has no meaning, is wanting or is too much; None if there is none."""
    words = line.split(" ")
    if words[0] == "ask":
        wanted = (NAME,) * min(max(1, len(words) - 1), 12)
    elif words[0] in WORDS:
        wanted = WORDS[words[0]]
    else:
        return 0
    for at, pattern in enumerate(wanted, 1):
        if at >= len(words) or not re.fullmatch(pattern, words[at]):
            return at
    return len(wanted) + 1 if len(words) > len(wanted) + 1 else None


class Model:
    """A bench of the test's own: names to pairs (lot, rows), told from the words of the document."""

    def __init__(self):
        self.tables, self.asked, self.past, self.lines = {}, None, [], []

    def tell(self, line):
        """The reply, or the error and what it keeps."""
        if not isinstance(line, str):
            return (ParseError, None)
        at = wrong_word(line)
        if at is not None:
            return (ParseError, at)
        word, *given = line.split(" ")
        names = given if word == "ask" else given[:1] if word in ("put", "take") else []
        for name in names:
            if name not in self.tables:
                return (UnknownName, name)
        reply = getattr(self, "do_" + word)(*given)
        if isinstance(reply, str):
            self.lines.append(line)
        return reply

    def changed(self):
        self.past.append(({name: (lot, set(rows)) for name, (lot, rows) in self.tables.items()}, self.asked))

    def do_new(self, name, lot):
        if name in self.tables:
            return (InvalidOperation, None)
        if len(self.tables) == 12:
            return (TooMany, 12)
        self.changed()
        self.tables[name] = (lot_at(lot), set())
        return f"{name}: 0 rows"

    def do_put(self, name, word):
        lot, rows = self.tables[name]
        row = row_at(word)
        if len(row) != len(lot) or row in rows:
            return (InvalidOperation, None)
        if len(rows) == 60:
            return (TooMany, 60)
        self.changed()
        rows.add(row)
        return f"{name}: {len(rows)} rows"

    def do_take(self, name, word):
        lot, rows = self.tables[name]
        row = row_at(word)
        if len(row) != len(lot) or row not in rows:
            return (InvalidOperation, None)
        self.changed()
        rows.remove(row)
        return f"{name}: {len(rows)} rows"

    def do_ask(self, *names):
        self.changed()
        self.asked = [(self.tables[name][0], sorted(self.tables[name][1])) for name in names]
        parts = "; ".join(" ".join(map(str, lot)) or "no letters" for lot, _ in self.asked)
        return f"question on {' '.join(map(str, self.letters())) or 'no letters'}, parts {parts}"

    def do_undo(self):
        if not self.past:
            return (InvalidOperation, None)
        self.tables, self.asked = self.past.pop()
        return "undone"

    def letters(self):
        return tuple(sorted({letter for lot, _ in self.asked for letter in lot}))

    def rows(self):
        letters = self.letters()
        numbers = [sorted({row[lot.index(letter)] for lot, rows in self.asked if letter in lot for row in rows})
                   for letter in letters]
        return [row for row in product(*numbers)
                if all(part_of(letters, row, lot) in rows for lot, rows in self.asked)]

    def do_answer(self):
        if self.asked is None:
            return (InvalidOperation, None)
        rows = self.rows()
        return f"{len(rows)} rows" + ("" if not rows else ": " + " ".join(map(row_word, rows)))

    def do_bound(self):
        if self.asked is None:
            return (InvalidOperation, None)
        costs = [(len(rows) - 1).bit_length() if rows else 0 for _, rows in self.asked]
        found = [Fraction(sum(w * k for w, k in zip(weights, costs)), D)
                 for D, weights in cover_corners(tuple(lot for lot, _ in self.asked))]
        least = min(found)
        return f"at most 2 ** ({least.numerator} / {least.denominator})"

    def do_looks(self, word):
        order = lot_at(word)
        if self.asked is None or sorted(order) != list(self.letters()):
            return (InvalidOperation, None)
        begun = [{}] if all(rows for _, rows in self.asked) else []
        looks = 0
        for letter in order:
            longer = []
            for at in begun:
                told = []
                for lot, rows in self.asked:
                    if letter in lot:
                        named = [dict(zip(lot, row)) for row in rows]
                        told.append({row[letter] for row in named if all(row[one] == at[one] for one in at if one in row)})
                fewest = min(told, key=len)
                looks += len(fewest)
                longer += [{**at, letter: number} for number in fewest if all(number in numbers for numbers in told)]
            begun = longer
        return f"{looks} looks"

    def do_fold(self):
        if self.asked is None:
            return (InvalidOperation, None)
        lots = tuple(lot for lot, _ in self.asked)
        if len(lots) < 5:
            return "folds" if all_trees(lots) else "stuck"
        return "stuck" if any(is_stuck_plainly(lots, some) for some in all_lots(SIX)) else "folds"


def stand_of(bench):
    question = bench.question
    return (bench.lines, bench.names, [(name, shown(bench.table(name))) for name in bench.names], len(bench), str(bench),
            None if question is None else shown(question))


def told_by(bench, line):
    try:
        return bench.tell(line)
    except ValueError as error:
        return (type(error), list(vars(error).values())[0] if vars(error) else None)


def drawn_line(chance, tables):
    names = ("r", "s", "t", chance.choice(("edges", "abcdefgh")))
    word = chance.choice(("new", "put", "put", "put", "put", "take", "ask", "ask", "answer", "bound", "looks", "fold", "undo"))
    lot = chance.choice(("a", "b", "ab", "bc", "ac", "abc", "-", "cd"))
    name = chance.choice(names)
    row = [chance.choice((0, 1, 2, -1)) for _ in tables.get(name, ((0, 1),))[0]][:chance.choice((1, 6, 6, 6))]
    if word == "take" and chance.random() < 0.7:
        row = chance.choice(sorted(tables.get(name, ((), ()))[1]) or [(7,)])
    row = row_word(row)
    given = {"new": [chance.choice(names), lot], "put": [name, row], "take": [name, row],
             "ask": chance.choices(names, k=chance.choice((1, 2, 3, 3))),
             "looks": ["".join(chance.sample("abc", chance.choice((1, 2, 3, 3, 3))))]}.get(word, [])
    words = [word] + given
    if chance.random() < 0.12:
        at = chance.randrange(len(words))
        way = chance.randrange(4)
        if way == 0:
            del words[at]
        elif way == 1:
            words.insert(at, chance.choice(("", "x", "1", "ab", "-", "ask", "R")))
        elif way == 2:
            words[at] = chance.choice(("", "0,01", "aa", "ba", "Edges", "abcdefghi", "1,2,3,4,5,6,7", "-0", "a1", words[at] + " "))
        else:
            words.append(chance.choice(("", "x", "ab")))
    return " ".join(words)


class BenchTest(unittest.TestCase):
    def test_drawn_lines(self):
        """[22.3], [22.4]: replies and errors by the test's own bench; what is refused changes nothing."""
        chance = random.Random(231)
        seen = {}
        for _ in range(60):
            bench, model = Bench(), Model()
            start = ["new r ab", "new s bc", "new t ac", "ask r s t"] * (chance.random() < 0.8)
            for at in range(chance.choice((10, 60))):
                line = start[at] if at < len(start) else drawn_line(chance, model.tables)
                before = stand_of(bench)
                told = told_by(bench, line)
                self.assertEqual(told, model.tell(line), (line, model.lines))
                key = (line.split(" ")[0], told[0].__name__ if isinstance(told, tuple) else "reply")
                seen[key] = seen.get(key, 0) + 1
                if isinstance(told, tuple):
                    self.assertEqual(stand_of(bench), before)
                self.check(bench, model)
            again = Bench()
            for line in bench.lines:
                again.tell(line)
            self.assertEqual(stand_of(again), stand_of(bench))
        for word in ("new", "put", "take", "ask", "answer", "bound", "looks", "fold", "undo"):
            self.assertGreater(seen[(word, "reply")], 10, seen)
            self.assertGreater(seen[(word, "ParseError")], 1)
            self.assertGreater(seen.get((word, "InvalidOperation"), 0) + seen.get((word, "UnknownName"), 0), 1, word)

    def check(self, bench, model):
        self.assertEqual((bench.lines, bench.names, len(bench)),
                         (tuple(model.lines), tuple(sorted(model.tables)), len(model.tables)))
        for name, (lot, rows) in model.tables.items():
            self.assertEqual(bench.table(name), Table(lot, tuple(rows)))
        self.assertEqual(str(bench), f"bench of {len(model.tables)} tables, {len(model.lines)} lines")
        if model.asked is None:
            self.assertIsNone(bench.question)
        else:
            parts = tuple(Table(lot, tuple(rows)) for lot, rows in model.asked)
            self.assertEqual(bench.question, Question(model.letters(), parts))

    def test_an_empty_bench(self):
        bench = Bench()
        self.assertEqual(stand_of(bench), ((), (), [], 0, "bench of 0 tables, 0 lines", None))
        for line in ("answer", "bound", "looks a", "fold", "undo"):
            refused(self, InvalidOperation, bench.tell, (line,))
        self.assertEqual(bench.lines, ())

    def test_what_is_asked_stays(self):
        """[22.4]: as it was when it was asked, until another one is, or it is taken back."""
        bench = Bench()
        for line in ("new r ab", "put r 0,1", "ask r", "put r 1,1", "ask r r", "take r 0,1", "take r 1,1"):
            bench.tell(line)
        self.assertEqual(bench.tell("answer"), "2 rows: 0,1 1,1")
        self.assertEqual([bench.tell("undo"), bench.tell("answer"), bench.table("r").rows],
                         ["undone", "2 rows: 0,1 1,1", ((1, 1),)])
        bench.tell("undo")
        self.assertEqual([bench.tell("undo"), bench.tell("answer"), bench.tell("undo"), bench.tell("undo")],
                         ["undone", "1 rows: 0,1", "undone", "undone"])
        self.assertIsNone(bench.question)
        refused(self, InvalidOperation, bench.tell, ("answer",))
        bench.tell("undo")
        bench.tell("undo")
        self.assertEqual((bench.names, len(bench), len(bench.lines)), ((), 0, 17))
        refused(self, InvalidOperation, bench.tell, ("undo",))
        refused(self, UnknownName, bench.table, ("r",), "r")

    def test_held_values_stay(self):
        """[0.2]: what was returned does not change."""
        bench = Bench()
        for line in ("new r a", "put r 1", "ask r"):
            bench.tell(line)
        held = (bench.table("r"), bench.question, bench.lines, bench.names)
        before = shown(held)
        for line in ("put r 2", "new s b", "ask r s", "undo"):
            bench.tell(line)
        self.assertEqual(shown(held), before)

    def test_rows_of_six_numbers(self):
        bench = Bench()
        for line in ("new wide abcdef", "put wide 1,2,3,4,5,6", "put wide -1,0,0,0,0,9", "ask wide"):
            bench.tell(line)
        self.assertEqual(bench.tell("answer"), "2 rows: -1,0,0,0,0,9 1,2,3,4,5,6")
        self.assertEqual(bench.tell("looks fedcba"), "12 looks")

    def test_no_letters(self):
        bench = Bench()
        for line in ("new x -", "ask x", "answer"):
            reply = bench.tell(line)
        self.assertEqual(reply, "0 rows")
        self.assertEqual([bench.tell("put x ."), bench.tell("ask x x"), bench.tell("answer"), bench.tell("bound"),
                          bench.tell("fold"), bench.tell("looks -")],
                         ["x: 1 rows", "question on no letters, parts no letters; no letters", "1 rows: .",
                          "at most 2 ** (0 / 1)", "folds", "0 looks"])
        refused(self, InvalidOperation, bench.tell, ("put x .",))
        refused(self, InvalidOperation, bench.tell, ("put x 0",))
        refused(self, InvalidOperation, bench.tell, ("looks a",))

    def test_bounds_and_webs(self):
        bench = Bench()
        for name, lot in (("r", "ab"), ("s", "bc"), ("t", "ac")):
            bench.tell(f"new {name} {lot}")
            for row in ("0,0", "0,1", "1,0", "-1,5"):
                bench.tell(f"put {name} {row}")
        bench.tell("ask r s t")
        self.assertEqual([bench.tell("bound"), bench.tell("fold"), bench.tell("looks cab")],
                         ["at most 2 ** (3 / 1)", "stuck", "12 looks"])
        self.assertEqual(bench.tell("answer"), "4 rows: 0,0,0 0,0,1 0,1,0 1,0,0")
        bench.tell("put s 5,5")
        bench.tell("ask r s t")
        self.assertEqual([bench.tell("bound"), bench.tell("ask r s"), bench.tell("fold")],
                         ["at most 2 ** (7 / 2)", "question on 0 1 2, parts 0 1; 1 2", "folds"])


class LineTest(unittest.TestCase):
    """[22.3]: which word is told, and which error comes first."""

    def test_words(self):
        bench = Bench()
        bench.tell("new r ab")
        before = stand_of(bench)
        for line, at in (("", 0), (" ", 0), ("New r ab", 0), ("newr", 0), ("new", 1), ("new ", 1), ("new r", 2), ("new  r ab", 1),
                         ("new R ab", 1), ("new abcdefghi ab", 1), ("new r1 ab", 1), ("new t ba", 2), ("new t g", 2), ("new t aa", 2),
                         ("new t ", 2), ("new t ab ", 3), ("new t ab c", 3), ("put", 1), ("put r", 2), ("put r 0,01", 2),
                         ("put r 1,-0", 2), ("put r 1, 2", 2), ("put r 1,2 3", 3), ("put r 1,2,3,4,5,6,7", 2), ("put r a", 2),
                         ("put r 1,1000000000", 2), ("put r 1;2", 2), ("put r ", 2), ("take r +1", 2), ("take", 1), ("take r 1,2 ", 3),
                         ("ask", 1), ("ask ", 1), ("ask r  r", 2), ("ask r 1", 2), ("ask" + " r" * 13, 13), ("ask" + " r" * 12 + " ", 13),
                         ("ask" + " r" * 11 + " R r", 12), ("answer x", 1), ("answer ", 1), ("bound 1", 1), ("fold fold", 1),
                         ("undo undo", 1), ("looks", 1), ("looks aa", 1), ("looks abg", 1), ("looks ab c", 2), ("looks a1", 1),
                         ("looks ", 1), ("new r ab\n", 2), ("\nnew r ab", 0), ("answer\n", 0), ("put r 1,2\t", 2), ("x" * 4000, 0),
                         ("put nosuch a", 2), ("put r " + "1" * 3900, 2), ("looks --", 1), ("put r -", 2), ("new t .", 2)):
            refused(self, ParseError, bench.tell, (line,), at)
        for value in tuple(value for value in ODD if not isinstance(value, str)) + OBJECTS + BOOLS + LONG_NUMBERS + (0, (), 7):
            refused(self, ParseError, bench.tell, (value,), None)
        self.assertEqual(stand_of(bench), before)

    def test_names_of_no_table(self):
        bench = Bench()
        bench.tell("new r ab")
        for line, name in (("put s 1", "s"), ("take abcdefgh .", "abcdefgh"), ("ask r s t r", "s"), ("ask x", "x"), ("put new 1,2", "new")):
            refused(self, UnknownName, bench.tell, (line,), name)
        for name in ODD + OBJECTS + BOOLS + LONG_NUMBERS + ("s", "R", "r ", "", 0, ()):
            refused(self, UnknownName, bench.table, (name,), name)
        self.assertEqual(bench.table("r"), Table((0, 1), ()))
        self.assertEqual(bench.lines, ("new r ab",))

    def test_operations(self):
        bench = Bench()
        for line in ("new r ab", "put r 1,2", "new s -"):
            bench.tell(line)
        before = stand_of(bench)
        for line in ("new r ab", "new r c", "put r 1,2", "put r 1", "put r 1,2,3", "put r .", "take r 2,1", "take r 1", "put s 1",
                     "take s .", "looks ab", "looks -", "answer", "bound", "fold"):
            refused(self, InvalidOperation, bench.tell, (line,))
        self.assertEqual(stand_of(bench), before)
        bench.tell("ask r")
        for line in ("looks a", "looks abc", "looks bc", "looks -"):
            refused(self, InvalidOperation, bench.tell, (line,))
        self.assertEqual([bench.tell("looks ab"), bench.tell("looks ba")], ["2 looks", "2 looks"])
        self.assertEqual(bench.tell(f"put r {GREATEST},{-GREATEST}"), "r: 2 rows")

    def test_twelve_tables_of_sixty_rows(self):
        bench = Bench()
        for at in range(12):
            bench.tell(f"new {'abcdefghijkl'[at]} {'abcdef'[at % 6]}")
            for number in range(60):
                bench.tell(f"put {'abcdefghijkl'[at]} {number}")
        before = stand_of(bench)
        refused(self, TooMany, bench.tell, ("new z a",), 12)
        refused(self, InvalidOperation, bench.tell, ("new a a",))
        refused(self, TooMany, bench.tell, ("put a 60",), 60)
        refused(self, InvalidOperation, bench.tell, ("put a 59",))
        refused(self, InvalidOperation, bench.tell, ("put a 1,2",))
        self.assertEqual(stand_of(bench), before)
        self.assertEqual([bench.tell("take a 7"), bench.tell("put a 60")], ["a: 59 rows", "a: 60 rows"])
        bench.tell("ask a b c d e f g h i j k l")
        before = stand_of(bench)
        refused(self, TooMany, bench.tell, ("answer",), 100000)
        refused(self, TooMany, bench.tell, ("looks abcdef",), 100000)
        self.assertEqual(stand_of(bench), before)
        self.assertEqual([bench.tell("bound"), bench.tell("fold")], ["at most 2 ** (36 / 1)", "folds"])
        bench.tell("ask a b")
        self.assertEqual((bench.tell("answer")[:10], bench.tell("looks ba")), ("3600 rows:", "3660 looks"))
        for _ in range(2):
            bench.tell("undo")
        self.assertIsNone(bench.question)
        bench.tell("undo")
        self.assertEqual(bench.table("a").rows, tuple((n,) for n in range(60) if n != 7))
        refused(self, TooMany, bench.tell, ("new z a",), 12)
        self.assertEqual(len(bench.lines), 12 * 61 + 11)

    def test_a_bench_goes_on_by_itself(self):
        one, other = Bench(), Bench()
        one.tell("new r a")
        self.assertEqual((len(one), len(other), len(SOME_BENCH)), (1, 0, 0))
        for use in (iter, list, tuple, sorted):
            with self.assertRaises(TypeError):
                use(one)
        self.assertTrue(one == one and one != other and not one == ODD)

    def test_answers_against_all_rows(self):
        bench = Bench()
        chance = random.Random(233)
        for name, lot in (("r", "ab"), ("s", "bcd"), ("t", "ad")):
            bench.tell(f"new {name} {lot}")
            for row in {tuple(chance.randrange(3) for _ in lot) for _ in range(14)}:
                bench.tell(f"put {name} {row_word(row)}")
        bench.tell("ask t r s")
        rows = plain_answer(bench.question, (0, 1, 2))
        self.assertEqual(bench.tell("answer"), f"{len(rows)} rows: " + " ".join(map(row_word, rows)))


if __name__ == "__main__":
    unittest.main()
