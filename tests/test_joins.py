"""Joins and questions [3.1] to [3.6]: crestjoin.table.joins."""

import random
import unittest
from itertools import permutations

from crestjoin.errors import InvalidLot, InvalidNumber, InvalidOperation, InvalidQuestion, InvalidTable, TooMany
from crestjoin.table import joins
from crestjoin.table.joins import (
    Question, answer, board, is_answer_row, join, join_all, join_size, semi, stuck,
)
from crestjoin.table.tables import Table, common, degree, project, united
from tests.support import (
    HUGE, LONG, SOME_QUESTION, SOME_TABLE, WRONG_LOTS, WRONG_QUESTIONS, WRONG_TABLES, all_lots, all_rows, check_judge,
    check_wrongs, part_of, plain_answer, random_question, refused, tables_on, wrong_numbers,
)

NUMBERS = (0, 1, 2)
FAMILY = [table for at, lot in enumerate(((0, 1), (1, 2), (1,), (0, 2), (3,), (0, 1, 2), ()))
          for table in tables_on(lot, NUMBERS, at, 3)] + [Table((), ((),))]
CHANCE = random.Random(31)
ASKED = [random_question(CHANCE, letters, NUMBERS, many) for letters in ((0,), (0, 1), (0, 2, 5), (1, 2, 3, 4))
         for many in (1, 2, 3, 4) for _ in range(6)]
WIDE = Table((0,), tuple((n,) for n in range(1000)))
TALL = Table((1,), tuple((n,) for n in range(100)))


def lot_of(*tables):
    return tuple(sorted(set(letter for table in tables for letter in table.lot)))


def plain_join(one, other):
    lot = lot_of(one, other)
    return Table(lot, tuple(row for row in all_rows(lot, NUMBERS)
                            if part_of(lot, row, one.lot) in one and part_of(lot, row, other.lot) in other))


class JoinTest(unittest.TestCase):
    def test_constants(self):
        self.assertEqual((joins.MOST_PARTS, joins.MOST_JOINED), (12, 100000))

    def test_joins_by_all_rows(self):
        """[3.1]"""
        for one in FAMILY:
            self.assertEqual(join(one, one), one)
            for lot in all_lots(one.lot):
                self.assertEqual(join(one, project(one, lot)), one)
            for other in FAMILY:
                both = join(one, other)
                self.assertEqual(both, plain_join(one, other))
                self.assertEqual(both, join(other, one))
                self.assertEqual(len(both), join_size(one, other))
                if one.lot == other.lot:
                    self.assertEqual(both, common(one, other))

    def test_joins_in_any_groups(self):
        """[3.1]"""
        for at in range(len(FAMILY) - 8):
            one, two, three = FAMILY[at], FAMILY[at + 3], FAMILY[at + 8]
            whole = join_all((one, two, three))
            self.assertEqual(join(join(one, two), three), whole)
            for a, b, c in permutations((one, two, three)):
                self.assertEqual(join(a, join(b, c)), whole)

    def test_how_many(self):
        """[3.2]"""
        for one in FAMILY:
            for other in FAMILY:
                shared = tuple(letter for letter in one.lot if letter in other.lot)
                products = [sum(part_of(one.lot, row, shared) == part for row in one.rows)
                            * sum(part_of(other.lot, row, shared) == part for row in other.rows)
                            for part in all_rows(shared, NUMBERS)]
                self.assertEqual(join_size(one, other), sum(products))
                self.assertLessEqual(join_size(one, other), len(one) * degree(other, shared, other.lot))

    def test_cut_by_a_degree(self):
        """[3.2]"""
        for one in FAMILY:
            for other in FAMILY:
                for high in all_lots(other.lot):
                    for low in all_lots([letter for letter in high if letter in one.lot]):
                        first, second = project(one, low), project(other, high)
                        self.assertLessEqual(join_size(first, second), len(first) * degree(other, low, high))

    def test_what_goes_on(self):
        """[3.3]"""
        for one in FAMILY:
            for other in FAMILY:
                shared = tuple(letter for letter in one.lot if letter in other.lot)
                ends = set(part_of(other.lot, row, shared) for row in other.rows)
                rows = tuple(row for row in one.rows if part_of(one.lot, row, shared) in ends)
                self.assertEqual(semi(one, other), Table(one.lot, rows))
                self.assertEqual(semi(one, other), project(join(one, other), one.lot))
                self.assertEqual(stuck(one, other), Table(one.lot, tuple(set(one.rows) - set(rows))))
                self.assertEqual(united(semi(one, other), stuck(one, other)), one)

    def test_sizes_that_are_let_and_one_more(self):
        self.assertEqual(len(join(WIDE, TALL)), 100000)
        more = Table((1,), TALL.rows + ((100,),))
        self.assertEqual(join_size(WIDE, more), 101000)
        refused(self, TooMany, join, (WIDE, more), 100000)

    def test_join_of_just_one_row_more(self):
        left = Table((0, 1), tuple((n, 0) for n in range(500)) + ((0, 1),))
        right = Table((1, 2), tuple((0, n) for n in range(200)))
        self.assertEqual(len(join(left, right)), 100000)
        refused(self, TooMany, join, (left, Table((1, 2), right.rows + ((1, 0),))), 100000)

    def test_tables_from_joins_are_tables(self):
        big = join(WIDE, TALL)
        self.assertEqual(project(big, (0,)), WIDE)
        self.assertEqual(degree(big, (0,), (0, 1)), 100)
        self.assertEqual(join(big, big), big)
        self.assertEqual(join_size(big, Table((2,), WIDE.rows)), 100000000)
        self.assertEqual(len(answer(Question((0, 1), (big, big, WIDE)))), 100000)
        self.assertTrue((999, 99) in big and (999, 100) not in big and (True, 99) not in big)

    def test_join_all(self):
        for at in range(len(FAMILY) - 5):
            some = tuple(FAMILY[at:at + 6:2])
            self.assertEqual(join_all(some), answer(Question(lot_of(*some), some)))
        self.assertEqual(join_all((SOME_TABLE,)), SOME_TABLE)
        self.assertEqual(join_all((SOME_TABLE,) * 12), SOME_TABLE)
        self.assertEqual(join_all((Table((), ((),)),)), Table((), ((),)))
        refused(self, TooMany, join_all, ((WIDE, Table((1,), WIDE.rows)),), 100000)

    def test_wrong_arguments(self):
        table = (InvalidTable, WRONG_TABLES)
        for call in (join, join_size, semi, stuck):
            check_wrongs(self, call, (SOME_TABLE, WIDE), ((table,), (table,)))
        tables = [value for value in WRONG_TABLES if shown_unlike(value, (SOME_TABLE,))] + [SOME_TABLE, [SOME_TABLE]]
        tables += [(SOME_TABLE,) * 13, (SOME_TABLE, None), (SOME_QUESTION,), {0: SOME_TABLE}]
        check_wrongs(self, join_all, ((SOME_TABLE,),), (((InvalidTable, tables),),))


def shown_unlike(value, other):
    return not (isinstance(value, tuple) and value == other)


class QuestionTest(unittest.TestCase):
    def test_what_it_has(self):
        parts = (SOME_TABLE, Table((), ((),)), Table((2,), ()), SOME_TABLE)
        asked = Question((0, 1, 2), parts)
        self.assertEqual((asked.lot, asked.parts), ((0, 1, 2), parts))
        self.assertEqual((asked.lots, asked.sizes, len(asked)), (((0, 1), (), (2,), (0, 1)), (3, 1, 0, 3), 4))
        none = Question((), ())
        self.assertEqual((none.lot, none.parts, none.lots, none.sizes, len(none)), ((), (), (), (), 0))

    def test_texts(self):
        three = Question((0, 1, 2), (SOME_TABLE, Table((1, 2), ()), Table((0, 2), ())))
        self.assertEqual(str(three), "question on 0 1 2, parts 0 1; 1 2; 0 2")
        self.assertEqual(str(Question((), ())), "question on no letters, parts none")
        self.assertEqual(str(Question((3,), (Table((), ()), Table((3,), ())))), "question on 3, parts no letters; 3")

    def test_equality(self):
        other = Table((0, 1), SOME_TABLE.rows[1:])
        asked = [Question((0, 1), parts) for parts in ((SOME_TABLE,), (other,), (SOME_TABLE, other),
                                                       (other, SOME_TABLE), (SOME_TABLE, SOME_TABLE))]
        for at, one in enumerate(asked):
            for place, two in enumerate(asked):
                self.assertIs(one == two, at == place)
                self.assertIs(one != two, at != place)
            self.assertTrue(one == Question((0, 1), tuple(Table(part.lot, part.rows) for part in one.parts)))
            for value in WRONG_QUESTIONS:
                self.assertIs(one == value, False)
                self.assertIs(one != value, True)

    def test_it_never_changes_and_cannot_be_iterated_over(self):
        for name in ("lot", "parts", "lots", "sizes"):
            with self.assertRaises(AttributeError):
                setattr(SOME_QUESTION, name, ())
        self.assertEqual(SOME_QUESTION, Question((0, 1), (SOME_TABLE,)))
        for asked in ASKED + [Question((), ())]:
            with self.assertRaises(TypeError):
                iter(asked)

    def test_with_part(self):
        asked = Question((0, 1, 2), (SOME_TABLE, Table((2,), ((5,),)), SOME_TABLE))
        other = Table((0, 1), ((7, 7),))
        self.assertEqual(asked.with_part(2, other), Question((0, 1, 2), asked.parts[:2] + (other,)))
        self.assertEqual(asked.with_part(0, other), Question((0, 1, 2), (other,) + asked.parts[1:]))
        self.assertEqual(asked.parts, (SOME_TABLE, Table((2,), ((5,),)), SOME_TABLE))
        index, table = (InvalidNumber, wrong_numbers(0, 2)), (InvalidTable, WRONG_TABLES)
        check_wrongs(self, asked.with_part, (0, other), ((index,), (table,)))
        for lot in ((), (0,), (2,), (0, 2), (0, 1, 2)):
            refused(self, InvalidOperation, asked.with_part, (0, Table(lot, ())))
        refused(self, InvalidNumber, Question((), ()).with_part, (0, other), 0)

    def test_wrong_arguments(self):
        parts = [value for value in WRONG_TABLES if shown_unlike(value, (SOME_TABLE,)) and value != ()]
        parts += [(), [SOME_TABLE], SOME_TABLE, (SOME_TABLE,) * 13, (SOME_TABLE, 0), (SOME_QUESTION,),
                  (Table((0,), ()),), (SOME_TABLE, Table((2,), ())), (Table((0,), ()), Table((), ())), {0: SOME_TABLE}]
        check_wrongs(self, Question, ((0, 1), (SOME_TABLE,)), (((InvalidLot, WRONG_LOTS),), ((InvalidQuestion, parts),)))
        self.assertEqual(len(Question((0, 1), (SOME_TABLE,) * 12)), 12)
        refused(self, InvalidQuestion, Question, ((), (SOME_TABLE,)))
        refused(self, InvalidQuestion, Question, ((0,), ()))


class AnswerTest(unittest.TestCase):
    def test_answers_by_trying_all_rows(self):
        """[3.4]"""
        for asked in ASKED:
            found = answer(asked)
            self.assertEqual((found.lot, found.rows), (asked.lot, plain_answer(asked, NUMBERS)))
            self.assertEqual(found, join_all(asked.parts))
            for part in asked.parts:
                self.assertTrue(set(project(found, part.lot).rows) <= set(part.rows))

    def test_joined_in_any_sequence(self):
        """[3.4]"""
        for asked in ASKED[::3]:
            for parts in list(permutations(asked.parts))[:8]:
                whole = parts[0]
                for part in parts[1:]:
                    whole = join(whole, part)
                self.assertEqual(whole, answer(asked))

    def test_a_row_more_takes_none_away(self):
        """[3.4]"""
        for asked in ASKED:
            for index, part in enumerate(asked.parts):
                more = Table(part.lot, part.rows + tuple(all_rows(part.lot, NUMBERS)[:4]))
                self.assertTrue(set(answer(asked).rows) <= set(answer(asked.with_part(index, more)).rows))

    def test_boards_by_trying_all_rows(self):
        """[3.5]"""
        for asked in ASKED:
            for many in range(len(asked.lot) + 1):
                first = asked.lot[:many]
                cut = tuple(project(part, tuple(x for x in part.lot if x in first)) for part in asked.parts)
                found = board(asked, many)
                self.assertEqual((found.lot, found.rows), (first, plain_answer(Question(first, cut), NUMBERS)))
                self.assertTrue(set(project(answer(asked), first).rows) <= set(found.rows))
            self.assertEqual(board(asked, len(asked.lot)), answer(asked))

    def test_boards_can_have_more_rows(self):
        """[3.5]"""
        asked = Question((0, 1, 2), (Table((0, 1), ((1, 1), (1, 2))), Table((1, 2), ((1, 1),))))
        self.assertEqual((len(board(asked, 1)), len(board(asked, 2)), len(answer(asked))), (1, 1, 1))
        asked = Question((0, 1), (Table((0,), ((1,), (2,), (3,))), Table((0, 1), ((1, 1), (2, 2))), Table((1,), ((1,),))))
        self.assertEqual((len(board(asked, 1)), len(answer(asked))), (2, 1))

    def test_edges(self):
        row, none = Table((), ((),)), Table((), ())
        self.assertEqual(answer(Question((), ())).rows, ((),))
        self.assertEqual(answer(Question((), (row, row))).rows, ((),))
        self.assertEqual(answer(Question((), (row, none))).rows, ())
        self.assertEqual(answer(Question((0, 1), (SOME_TABLE, none))), Table((0, 1), ()))
        self.assertEqual(answer(Question((0, 1), (SOME_TABLE, SOME_TABLE, row))), SOME_TABLE)
        self.assertEqual(board(Question((0, 1), (SOME_TABLE, Table((1,), ()))), 0).rows, ())
        self.assertEqual(board(Question((0, 1), (SOME_TABLE, Table((1,), ()))), 1).rows, ())
        self.assertEqual(board(SOME_QUESTION, 0), row)

    def test_is_answer_row(self):
        for asked in ASKED:
            rows = plain_answer(asked, NUMBERS)
            wrong = [row for row in all_rows(asked.lot, NUMBERS) if row not in rows]
            wrong += [row + (0,) for row in rows] + [row[:-1] for row in rows] + [(HUGE,) * len(asked.lot)]
            check_judge(self, lambda value, asked=asked: is_answer_row(asked, value), rows, wrong)
        self.assertIs(is_answer_row(Question((), ()), ()), True)
        self.assertIs(is_answer_row(Question((), (Table((), ()),)), ()), False)
        self.assertIs(is_answer_row(SOME_QUESTION, (LONG, 1)), False)

    def test_sizes_that_are_let_and_one_more(self):
        self.assertEqual(len(answer(Question((0, 1), (WIDE, TALL)))), 100000)
        more = Table((1,), TALL.rows + ((100,),))
        asked = Question((0, 1, 2), (WIDE, more, Table((2,), ())))
        self.assertEqual(len(answer(asked)), 0)
        asked = Question((0, 1, 2), (WIDE, more, Table((1, 2), ((0, 0),))))
        self.assertEqual(len(answer(asked)), 1000)
        asked = Question((0, 1, 2), (WIDE, more, Table((2,), ((0,),)), Table((0, 1, 2), ())))
        self.assertEqual(len(answer(asked)), 0)

    def test_a_board_of_fewer_letters_with_too_many_rows(self):
        crowd = Table((0, 2), tuple((n, 0) for n in range(1000)))
        other = Table((1, 2), tuple((n, 1) for n in range(101)))
        asked = Question((0, 1, 2), (crowd, other))
        self.assertEqual(len(board(asked, 1)), 1000)
        refused(self, TooMany, board, (asked, 2), 100000)
        refused(self, TooMany, board, (asked, 3), 100000)
        refused(self, TooMany, answer, (asked,), 100000)
        refused(self, TooMany, join_all, ((crowd, other),), 100000)
        fewer = Question((0, 1, 2), (crowd, Table((1, 2), other.rows[:100])))
        self.assertEqual((len(board(fewer, 2)), len(answer(fewer))), (100000, 0))

    def test_many_rows_of_which_none_goes_on(self):
        left = Table((0,), tuple((n,) for n in range(316)))
        asked = Question((0, 1, 2), (left, Table((1,), left.rows), Table((2,), WIDE.rows),
                                     Table((2,), tuple((n,) for n in range(1000, 2000)))))
        self.assertEqual((len(board(asked, 2)), len(answer(asked))), (99856, 0))

    def test_wrong_arguments(self):
        question = (InvalidQuestion, WRONG_QUESTIONS)
        check_wrongs(self, answer, (SOME_QUESTION,), ((question,),))
        check_wrongs(self, board, (SOME_QUESTION, 1), ((question,), ((InvalidNumber, wrong_numbers(0, 2)),)))
        for value in ((0, 1), None, (0,)):
            check_wrongs(self, is_answer_row, (SOME_QUESTION, value), ((question,), ()))


class NotTrueTest(unittest.TestCase):
    """[3.6]"""

    def test_a_join_can_have_more_rows_than_both(self):
        one, other = Table((0,), ((1,), (2,))), Table((1,), ((1,), (2,)))
        self.assertGreater(len(join(one, other)), max(len(one), len(other)))

    def test_an_answer_can_be_empty_though_no_part_is(self):
        asked = Question((0,), (Table((0,), ((1,),)), Table((0,), ((2,),))))
        self.assertEqual((min(asked.sizes), len(answer(asked))), (1, 0))

    def test_what_goes_on_in_each_part_can_stand_in_no_row(self):
        even, odd = ((0, 0), (1, 1)), ((0, 1), (1, 0))
        asked = Question((0, 1, 2), (Table((0, 1), even), Table((1, 2), even), Table((0, 2), odd)))
        for one in asked.parts:
            for other in asked.parts:
                self.assertEqual(semi(one, other), one)
        self.assertEqual(len(answer(asked)), 0)


if __name__ == "__main__":
    unittest.main()
