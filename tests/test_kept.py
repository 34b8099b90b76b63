"""Answers that are kept [20.1] to [20.5]: crestjoin.change.kept."""

import random
import unittest
from itertools import combinations, product

from crestjoin.change import kept
from crestjoin.change.kept import Kept, brought, look_bounds
from crestjoin.errors import InvalidNumber, InvalidQuestion, InvalidTable, Refused, TooMany
from crestjoin.table.joins import Question, answer, join
from crestjoin.table.tables import Table
from tests.support import (
    BOOLS, HUGE, LONG, LONG_NUMBERS, OBJECTS, ODD, SOME_KEPT, SOME_QUESTION, SOME_TABLE, WRONG_QUESTIONS, check_wrongs,
    part_of, plain_answer, random_question, random_table, refused, shown, wrong_numbers,
)

R, S = Table((0, 1), ((1, 1), (1, 2), (2, 2))), Table((1, 2), ((1, 5), (2, 5)))
Q = Question((0, 1, 2), (R, S, Table((0, 2), ((1, 5), (2, 6)))))
WIDE = Table((1,), tuple((n,) for n in range(1000)))


def others(question, index):
    return [part for at, part in enumerate(question.parts) if at != index]


def brought_plainly(question, index, row, numbers):
    """The rows that a part's row is a part of, by trying all rows."""
    lot = question.lots[index]
    further = [letter for letter in question.lot if letter not in lot]
    found = []
    for more in product(numbers, repeat=len(further)):
        at = {**dict(zip(lot, row)), **dict(zip(further, more))}
        whole = tuple(at[letter] for letter in question.lot)
        if all(part_of(question.lot, whole, part.lot) in set(part.rows) for part in others(question, index)):
            found.append(whole)
    return tuple(sorted(found))


def looks_plainly(question, index, row):
    """The looks at all further letters, by a walk from the words of the document."""
    lot = question.lots[index]
    at = dict(zip(lot, row))
    found = [at] if all(tuple(at[letter] for letter in part.lot) in set(part.rows) for part in others(question, index)
                        if set(part.lot) <= set(lot)) else []
    looks = []
    for letter in question.lot:
        if letter in lot:
            continue
        many, longer = 0, []
        leaders = [part for part in others(question, index) if letter in part.lot]
        for row_found in found:
            told = []
            for part in leaders:
                numbers = set()
                for other in part.rows:
                    named = dict(zip(part.lot, other))
                    if all(named[known] == row_found[known] for known in part.lot if known in row_found):
                        numbers.add(named[letter])
                told.append(numbers)
            fewest = [numbers for numbers in told if len(numbers) == min(map(len, told))][0]
            many += len(fewest)
            longer += [{**row_found, letter: number} for number in fewest if all(number in some for some in told)]
        looks.append(many)
        found = longer
    return tuple(looks)


def bounds_plainly(question, index):
    """The products of the least degrees, by counting rows."""
    known = set(question.lots[index])
    product_so_far, found = 1, []
    for letter in question.lot:
        if letter in known:
            continue
        degrees = []
        for part in others(question, index):
            if letter in part.lot:
                low = [other for other in part.lot if other in known]
                above = {}
                for row in part.rows:
                    above.setdefault(part_of(part.lot, row, low), set()).add(part_of(part.lot, row, [letter])[0])
                degrees.append(max(map(len, above.values()), default=0))
        product_so_far *= min(degrees)
        found.append(product_so_far)
        known.add(letter)
    return tuple(found)


def drawn_questions(seed, times):
    """Questions, parts on (), parts without rows, one lot twice, and parts with all letters among them."""
    chance = random.Random(seed)
    for at in range(times):
        letters = ((), (2,), (0, 1), (0, 1, 2), (0, 1, 3, 5), (0, 1, 2, 4))[at % 6]
        if letters == ():
            yield chance, Question((), tuple(random_table(chance, (), (), chance.randint(0, 1)) for _ in range(1 + at % 3)))
            continue
        question = random_question(chance, letters, (0, 1, 2), 1 + at % 4)
        parts = list(question.parts)
        if at % 5 == 0:
            parts[0] = Table(parts[0].lot, ())
        if at % 3 == 0:
            parts.append(random_table(chance, parts[0].lot, (0, 1, 2), 5))
        if at % 7 == 0:
            parts.insert(0, random_table(chance, letters, (0, 1, 2), 20))
        chance.shuffle(parts)
        yield chance, Question(letters, tuple(parts))


class BroughtTest(unittest.TestCase):
    def test_rows_and_looks(self):
        """[20.1] to [20.3]: rows by trying all, looks by the test's own walk, within the products of degrees."""
        seen = {True: 0, False: 0}
        for chance, question in drawn_questions(201, 150):
            for index, part in enumerate(question.parts):
                for _ in range(4):
                    row = tuple(chance.choice((0, 1, 2)) for _ in part.lot)
                    before = shown(question)
                    table, looks = brought(question, index, row)
                    self.assertEqual(shown(question), before)
                    self.assertEqual((table.lot, table.rows),
                                     (question.lot, brought_plainly(question, index, row, (0, 1, 2))))
                    self.assertEqual(looks, looks_plainly(question, index, row))
                    bounds = look_bounds(question, index)
                    self.assertEqual(bounds, bounds_plainly(question, index))
                    self.assertEqual(len(looks), len(bounds))
                    self.assertTrue(all(many <= most for many, most in zip(looks, bounds)))
                    seen[sum(looks) > 0] += 1
        self.assertGreater(min(seen.values()), 200)

    def test_rows_that_are_there_or_not_bring_the_same(self):
        for question in (Q, Q.with_part(0, Table((0, 1), ()))):
            self.assertEqual(brought(question, 0, (1, 2)), (Table((0, 1, 2), ((1, 2, 5),)), (1,)))

    def test_a_part_with_all_letters(self):
        """[20.3]: one row, without looks."""
        question = Question((0, 1), (SOME_TABLE, Table((0,), ((1,),))))
        self.assertEqual(brought(question, 0, (1, 7)), (Table((0, 1), ((1, 7),)), ()))
        self.assertEqual(brought(question, 0, (0, 1)), (Table((0, 1), ()), ()))
        self.assertEqual(look_bounds(question, 0), ())
        self.assertEqual(brought(question, 1, (1,)), (Table((0, 1), ((1, 0), (1, 1))), (2,)))
        self.assertEqual(look_bounds(question, 1), (2,))

    def test_parts_on_no_letters(self):
        dull = Question((0,), (Table((0,), ((3,), (4,))), Table((), ())))
        self.assertEqual(brought(dull, 0, (3,)), (Table((0,), ()), ()))
        self.assertEqual(brought(dull, 1, ()), (Table((0,), ((3,), (4,))), (2,)))
        self.assertEqual(look_bounds(dull, 1), (2,))
        self.assertEqual(brought(Question((), (Table((), ()),)), 0, ()), (Table((), ((),)), ()))

    def test_a_part_that_shares_some_letters_alone_is_asked_at_its_further_one(self):
        """[20.2]: looks at letters ahead of it are made all the same."""
        question = Question((0, 1, 3), (Table((0,), ()), Table((1,), ((1,), (2,))), Table((0, 3), ((5, 1),))))
        self.assertEqual(brought(question, 0, (6,)), (Table((0, 1, 3), ()), (2, 0)))
        self.assertEqual(brought(question, 0, (5,)), (Table((0, 1, 3), ((5, 1, 1), (5, 2, 1))), (2, 2)))

    def test_the_first_of_the_leaders_with_fewest_numbers(self):
        """Two leaders with one number each, of which one alone is kept at the next letter."""
        question = Question((0, 1), (Table((0,), ()), Table((0, 1), ((1, 5),)), Table((1,), ((6,), (7,)))))
        self.assertEqual(brought(question, 0, (1,))[1], (1,))
        self.assertEqual(look_bounds(question, 0), (1,))

    def test_a_hundred_thousand_looks_and_more(self):
        for many in (99, 100):
            question = Question((0, 1, 2), (Table((0,), ()), WIDE, Table((2,), tuple((n,) for n in range(many)))))
            if many == 99:
                table, looks = brought(question, 0, (4,))
                self.assertEqual((len(table), looks), (99000, (1000, 99000)))
            else:
                refused(self, TooMany, brought, (question, 0, (4,)), 100000)
            self.assertEqual(look_bounds(question, 0), (1000, 1000 * many))


class KeptTest(unittest.TestCase):
    def test_drawn_changes(self):
        """[20.1], [20.4]: after each change the answer is the one from nothing, and what came or went is told."""
        seen = {"put": 0, "take": 0, "nothing": 0, "undo": 0}
        for chance, question in drawn_questions(202, 60):
            one = Kept(question)
            held, looks, past = question, 0, []
            for _ in range(25):
                index = chance.randrange(len(question))
                row = tuple(chance.choice((0, 1, 2)) for _ in question.lots[index])
                name = chance.choice(("put", "take", "undo"))
                before = plain_answer(held, (0, 1, 2))
                if name == "undo":
                    if not past:
                        refused(self, Refused, one.undo, (), ("undo",))
                        continue
                    held, rows = past.pop()
                    told = one.undo()
                    self.assertEqual(told.rows, rows)
                    seen["undo"] += 1
                elif (row in held.parts[index]) == (name == "put"):
                    told = getattr(one, name)(index, row)
                    self.assertEqual(told, Table(question.lot, ()))
                    seen["nothing"] += 1
                else:
                    looks += sum(looks_plainly(held, index, row))
                    rows = set(held.parts[index].rows) ^ {row}
                    after = held.with_part(index, Table(question.lots[index], tuple(rows)))
                    told = getattr(one, name)(index, row)
                    changed = set(before) ^ set(plain_answer(after, (0, 1, 2)))
                    self.assertEqual(told, Table(question.lot, tuple(changed)))
                    past.append((held, told.rows))
                    held = after
                    seen[name] += 1
                self.assertEqual((one.question == held, one.answer == answer(held), one.looks, one.changes),
                                 (True, True, looks, len(past)))
                self.assertEqual((len(one), one.answer.rows), (len(answer(held)), plain_answer(held, (0, 1, 2))))
                self.assertEqual(str(one), f"kept {held}, {len(one)} rows")
            while past:
                held, rows = past.pop()
                self.assertEqual(one.undo().rows, rows)
                self.assertTrue(one.question == held and one.answer == answer(held))
            self.assertEqual((one.question, one.answer, one.changes, one.looks), (question, answer(question), 0, looks))
            refused(self, Refused, one.undo, (), ("undo",))
        self.assertGreater(min(seen.values()), 150)

    def test_whatever_the_sequence_of_changes(self):
        """[20.1]"""
        for chance, question in drawn_questions(203, 30):
            changes = [(index, tuple(chance.choice((0, 1, 2)) for _ in question.lots[index]))
                       for index in [chance.randrange(len(question)) for _ in range(6)]]
            changes = sorted(set(changes))
            answers = []
            for _ in range(4):
                one = Kept(question)
                chance.shuffle(changes)
                for index, row in changes:
                    (one.take if row in one.question.parts[index] else one.put)(index, row)
                answers.append(shown((one.question, one.answer)))
            self.assertEqual(len(set(answers)), 1)

    def test_one_lot_twice_and_one_part_alone(self):
        one = Kept(Question((0,), (Table((0,), ((1,),)), Table((0,), ((2,),)))))
        self.assertEqual([one.put(0, (2,)).rows, one.put(1, (1,)).rows, one.take(1, (2,)).rows, one.looks],
                         [((2,),), ((1,),), ((2,),), 0])
        alone = Kept(SOME_QUESTION)
        self.assertEqual([alone.put(0, (5, 5)).rows, alone.take(0, (0, 1)).rows, len(alone), alone.looks],
                         [((5, 5),), ((0, 1),), 3, 0])
        none = Kept(Question((), ()))
        self.assertEqual((none.answer.rows, len(none), () in none, str(none), none.changes),
                         (((),), 1, True, "kept question on no letters, parts none, 1 rows", 0))
        refused(self, InvalidNumber, none.put, (0, ()), 0)

    def test_parts_on_no_letters_and_without_rows(self):
        one = Kept(Question((0, 1), (Table((0,), ((3,), (4,))), Table((), ()), Table((1,), ()))))
        self.assertEqual([one.put(2, (7,)).rows, one.put(1, ()).rows, one.looks, one.take(1, ()).rows, len(one)],
                         [(), ((3, 7), (4, 7)), 4, ((3, 7), (4, 7)), 0])
        self.assertEqual([one.undo().rows, one.undo().rows, one.undo().rows, one.looks, one.changes],
                         [((3, 7), (4, 7)), ((3, 7), (4, 7)), (), 8, 0])

    def test_what_changes_nothing_is_no_change(self):
        """[20.4]"""
        one = Kept(Q)
        before = shown(one)
        self.assertEqual([one.put(0, (1, 1)).rows, one.take(0, (9, 9)).rows, one.take(1, (5, 5)).rows], [(), (), ()])
        self.assertEqual(shown(one), before)

    def test_twins_go_on_by_themselves(self):
        one = Kept(Q)
        one.put(1, (2, 6))
        twin = one.twin()
        self.assertEqual((twin == one, shown(twin)), (True, shown(one)))
        before = shown(one)
        twin.take(0, (1, 1))
        self.assertEqual([twin.undo().rows, twin.undo().rows, twin.changes], [((1, 1, 5),), ((2, 2, 6),), 0])
        refused(self, Refused, twin.undo, (), ("undo",))
        self.assertEqual(shown(one), before)
        middle = shown(twin)
        one.take(2, (1, 5))
        one.undo()
        one.undo()
        self.assertEqual(shown(twin), middle)
        self.assertTrue(one == twin and one.question == Q)
        self.assertNotEqual(one.looks, twin.looks)

    def test_what_was_told_stays(self):
        """[0.2]: a table or question that was returned does not change."""
        one = Kept(Q)
        held = (one.question, one.answer, one.put(1, (2, 6)), one.question, one.answer)
        before = shown(held)
        one.take(0, (2, 2))
        one.undo()
        one.undo()
        self.assertEqual(shown(held), before)

    def test_equality_and_membership(self):
        one, other = Kept(Q), Kept(Question((0, 1, 2), Q.parts))
        self.assertTrue(one == other and not one != other)
        other.put(0, (7, 7))
        self.assertTrue(one != other and not one == other)
        other.undo()
        self.assertTrue(one == other)
        for value in ODD + (Q, SOME_KEPT, HUGE, (HUGE,), object(), 1.5, answer(Q)):
            self.assertEqual((one == value, one != value, value == one, value != one), (False, True, False, True))
        self.assertEqual([(1, 1, 5) in one, (1, 2, 5) in one, (2, 2, 6) in one], [True, True, False])
        for value in ODD + OBJECTS + (HUGE, (True, True, 5), (1, True, 5), [1, 1, 5], (1, 1, HUGE), (1, 1), (1, 1, 5, 5),
                                      ((1, 1, 5),), object(), (object(),) * 3, (1, 1, 5.0)):
            self.assertEqual((value in one, value not in one), (False, True))
        for use in (iter, list, tuple, sorted, lambda it: [*it], dict):
            with self.assertRaises(TypeError):
                use(one)


class SizesTest(unittest.TestCase):
    def test_a_thousand_rows(self):
        """[0.3]: what is refused changes nothing."""
        one = Kept(Question((0, 1), (Table((1,), WIDE.rows[:999]), Table((0,), ((3,),)))))
        self.assertEqual(one.put(0, (999,)).rows, ((3, 999),))
        before = shown(one)
        refused(self, TooMany, one.put, (0, (1000,)), 1000)
        self.assertEqual(shown(one), before)
        self.assertEqual(one.put(0, (5,)).rows, ())
        one.take(0, (7,))
        self.assertEqual(one.put(0, (1000,)).rows, ((3, 1000),))
        great = join(Table((0,), WIDE.rows), Table((1,), ((0,), (1,))))
        held = Kept(Question((0, 1), (great,)))
        refused(self, TooMany, held.put, (0, (5, 5)), 1000)
        self.assertEqual((held.take(0, (5, 1)).rows, len(held)), (((5, 1),), 1999))
        refused(self, TooMany, held.put, (0, (5, 1)), 1000)
        self.assertEqual((held.undo().rows, held.question.parts[0] == great), (((5, 1),), True))

    def test_five_hundred_changes(self):
        self.assertEqual(kept.MOST_CHANGES, 500)
        chance = random.Random(204)
        lots = tuple(combinations((0, 2, 3, 5), 2)) + ((0, 2), (3, 5))
        question = Question((0, 2, 3, 5), tuple(random_table(chance, lot, range(60), 999) for lot in lots))
        one = Kept(question)
        looks = 0
        for at in range(500):
            index = chance.randrange(len(lots))
            part = one.question.parts[index]
            row = chance.choice(part.rows)
            if at % 2 or len(part) == 1000:
                name = one.take
            else:
                name = one.put
                row = chance.choice([(n, m) for n in range(60) for m in range(60) if (n, m) not in part])
            looks += sum(brought(one.question, index, row)[1])
            name(index, row)
        self.assertEqual((one.changes, one.looks, one.answer == answer(one.question)), (500, looks, True))
        self.assertGreater(looks, 5000)
        before = shown((one.question, one.answer, one.looks, one.changes))
        index = [at for at, part in enumerate(one.question.parts) if len(part) < 1000][0]
        refused(self, TooMany, one.put, (index, (99, 99)), 500)
        refused(self, TooMany, one.take, (index, one.question.parts[index].rows[0]), 500)
        self.assertEqual(one.put(index, one.question.parts[index].rows[0]).rows, ())
        self.assertEqual(shown((one.question, one.answer, one.looks, one.changes)), before)
        one.undo()
        one.put(index, (99, 99))
        self.assertEqual(one.changes, 500)
        for _ in range(500):
            one.undo()
        self.assertEqual((one.question, one.answer), (question, answer(question)))
        refused(self, Refused, one.undo, (), ("undo",))

    def test_a_hundred_thousand_rows_and_looks(self):
        one = Kept(Question((0, 1, 2), (Table((0,), ()), WIDE, Table((2,), WIDE.rows[:50]))))
        for number in (1, 2):
            self.assertEqual(len(one.put(0, (number,))), 50000)
        self.assertEqual((len(one), one.looks, len(one.answer)), (100000, 102000, 100000))
        told = (one.question, one.looks, one.changes)
        refused(self, TooMany, one.put, (0, (3,)), 100000)
        refused(self, TooMany, one.put, (2, (50,)), 100000)
        self.assertEqual(((one.question, one.looks, one.changes), len(one)), (told, 100000))
        self.assertEqual((len(one.take(1, (5,))), len(one), one.looks), (100, 99900, 102102))
        self.assertEqual((len(one.undo()), len(one), one.looks), (100, 100000, 102102))
        many = Kept(Question((0, 1, 2), (Table((0,), ()), WIDE, Table((2,), WIDE.rows[:100]))))
        refused(self, TooMany, many.put, (0, (1,)), 100000)
        self.assertEqual((len(many), many.looks, many.changes), (0, 0, 0))
        refused(self, TooMany, Kept, (many.question.with_part(0, Table((0,), ((0,), (1,)))),), 100000)

    def test_what_is_refused_first(self):
        question = Question((0, 1, 2), (Table((0,), WIDE.rows), WIDE, Table((2,), ())))
        one = Kept(question)
        refused(self, TooMany, one.put, (0, (1000,)), 1000)
        refused(self, TooMany, one.put, (2, (1,)), 100000)
        for number in range(500):
            one.take(0, (number,))
        refused(self, TooMany, one.put, (1, (1000,)), 1000)
        refused(self, TooMany, one.put, (2, (1,)), 500)
        refused(self, TooMany, one.take, (1, (1,)), 500)
        refused(self, InvalidNumber, one.put, (3, (1,)), 3)
        refused(self, InvalidTable, one.put, (2, (1, 1)))

    def test_kept_where_more_rows_would_come_on_the_way(self):
        """Its question's boards have more than 100,000 rows, but not its answer: it is kept, with its twins."""
        pairs = tuple((n, n) for n in range(1000))
        one = Kept(Question((0, 1, 2), (Table((0, 2), pairs), Table((1, 2), ()))))
        for number in range(120):
            self.assertEqual(one.put(1, (number, number)).rows, ((number,) * 3,))
        refused(self, TooMany, answer, (one.question,), 100000)
        twin = one.twin()
        self.assertEqual((twin == one, len(twin), twin.take(1, (7, 7)).rows, len(one)), (True, 120, ((7, 7, 7),), 120))


class WrongArgumentsTest(unittest.TestCase):
    QUESTION = (InvalidQuestion, WRONG_QUESTIONS)
    INDEX = (InvalidNumber, wrong_numbers(0, 2))
    ROW = (InvalidTable, ODD + OBJECTS + BOOLS + LONG_NUMBERS + (
        0, (), (1,), (1, 2, 3), (1, True), (False, 1), (1, LONG), (-LONG, 1), (1, None), (1, "1"), (1, (1,)), [1, 1],
        ((1, 1),), "11", {1: 1},
    ))

    def test_all(self):
        row = (InvalidTable, tuple(value for value in self.ROW[1] if value != (1,)))
        check_wrongs(self, brought, (Q, 1, (2, 6)), ((self.QUESTION,), (self.INDEX,), (row,)))
        check_wrongs(self, look_bounds, (Q, 1), ((self.QUESTION,), (self.INDEX,)))
        check_wrongs(self, Kept, (Q,), ((self.QUESTION,),))
        one = Kept(Q)
        before = shown(one)
        for call in (one.put, one.take):
            for value in self.INDEX[1]:
                refused(self, InvalidNumber, call, (value, (2, 6)), value)
                refused(self, InvalidNumber, call, (value, None), value)
            for value in self.ROW[1]:
                refused(self, InvalidTable, call, (1, value))
        self.assertEqual(shown(one), before)


class NotTrueTest(unittest.TestCase):
    """[20.5]"""

    def test_a_row_put_into_a_part_can_bring_none(self):
        one = Kept(Q)
        self.assertEqual((one.put(0, (8, 8)).rows, one.changes, one.answer), ((), 1, answer(Q)))

    def test_two_changes_exchanged_can_bring_other_rows_each(self):
        empty = Question((0,), (Table((0,), ()), Table((0,), ())))
        one, other = Kept(empty), Kept(empty)
        self.assertEqual([one.put(0, (1,)).rows, one.put(1, (1,)).rows], [(), ((1,),)])
        self.assertEqual([other.put(1, (1,)).rows, other.put(0, (1,)).rows], [(), ((1,),)])
        self.assertEqual(one.answer, other.answer)

    def test_looks_can_be_more_than_the_rows_that_come(self):
        table, looks = brought(Question((0, 1), (Table((0,), ()), Table((0, 1), ((1, 1),)), Table((1,), ((2,),)))), 0, (1,))
        self.assertEqual((len(table), looks), (0, (1,)))


if __name__ == "__main__":
    unittest.main()
