"""The conventions [0.1] to [0.6] for all that is there, and the interface: names, arguments and their files."""

import inspect
import unittest
from importlib import import_module

from crestjoin.base import checks, lots, numbers
from crestjoin.cover import covers
from crestjoin.errors import InvalidNumber
from crestjoin.exact import linear
from crestjoin.letter import search
from crestjoin.rank import ranks
from crestjoin.table import joins, tables
from crestjoin.table.joins import Question
from crestjoin.table.tables import Table
from tests.support import GREATEST, HUGE, LONG, ODD, SOME_QUESTION, SOME_TABLE, refused, shown

INTERFACE = {
    "base.lots": "is_lot(value) joined_lot(one,other) common_lot(one,other) rest_lot(one,other) is_within(one,other) "
                 "are_apart(one,other) lots_within(lot) lots_on(lots)",
    "base.numbers": "power_for(number) is_below(number,bound) most_within(bound) compare_bounds(one,other) "
                    "least_terms(bound)",
    "table.tables": "is_row(lot,value) Table(lot,rows) project(table,lot) degree(table,low,high) above(table,low,high) "
                    "choose(table,letter,number) section(table,lot,row) united(one,other) common(one,other) "
                    "less(one,other) renamed(table,names)",
    "table.joins": "join(one,other) join_size(one,other) semi(one,other) stuck(one,other) join_all(tables) "
                   "Question(lot,parts) answer(question) board(question,many) is_answer_row(question,value)",
    "letter.search": "searched(question,order) begun_rows(question,order,many) asked(question,order,row) "
                     "product_of(sizes,cover) are_looks_within(looks,sizes,cover)",
    "exact.linear": "is_point(value) does_fit(rows,sides,many,value) value_of(costs,point) "
                    "linear_answer(rows,sides,costs) is_linear(rows,sides,costs,value) corners(rows,sides,many) "
                    "is_corner(rows,sides,many,value)",
    "cover.covers": "is_cover(lots,value) is_packing(lots,exponents,value) cover_bound(lots,exponents,cover) "
                    "packing_bound(lots,exponents,packing) cover_answer(lots,exponents) "
                    "is_cover_answer(lots,exponents,value) cover_or_packing(lots,exponents,p,D) "
                    "least_whole(lots,exponents) cover_corners(lots) exponents_of(sizes)",
    "rank.ranks": "is_rank(lot,value) rank_fault(lot,value) step_rank(lot,some) parity_rank(lot,some) "
                  "sum_rank(lot,one,other) scaled_rank(lot,rank,number) restricted_rank(lot,rank,some) "
                  "contracted_rank(lot,rank,some) basic_sums(lot) rank_parts(lot,rank)",
}
METHODS = {
    Table: ("__init__", "lot", "rows", "__len__", "__contains__", "__eq__", "__str__"),
    Question: ("__init__", "lot", "parts", "lots", "sizes", "with_part", "__len__", "__eq__", "__str__"),
}

THREE = ((0, 1), (0, 2), (1, 2))
RING = ((1, 1, 0), (0, 1, 1), (1, 0, 1))
STEP = {(): 0, (0,): 0, (0, 1): 1, (1,): 1}
CALLS = (
    (lots.lots_within, ((0, 1, 3),)), (lots.lots_on, (THREE,)), (numbers.most_within, ((7, 2),)),
    (Table, ((0,), ((2,), (1,)))), (tables.project, (SOME_TABLE, (1,))), (tables.above, (SOME_TABLE, (1,), (0, 1))),
    (tables.renamed, (SOME_TABLE, {1: 0, 0: 5})), (tables.united, (SOME_TABLE, SOME_TABLE)),
    (joins.join, (SOME_TABLE, Table((1, 2), ((1, 4), (0, 2))))), (joins.answer, (SOME_QUESTION,)),
    (joins.join_all, ((SOME_TABLE, SOME_TABLE),)), (Question, ((0, 1), (SOME_TABLE,))),
    (SOME_QUESTION.with_part, (0, SOME_TABLE)), (search.searched, (SOME_QUESTION, (1, 0))),
    (search.begun_rows, (SOME_QUESTION, (1, 0), 1)), (search.asked, (SOME_QUESTION, (1, 0), (0,))),
    (linear.linear_answer, (RING, (1, 1, 1), (1, 1, 1))), (linear.linear_answer, (((1, -1),), (0,), (-1, 0))),
    (linear.linear_answer, (((1,), (-1,)), (3, -2), (0,))), (linear.corners, (RING, (1, 1, 1), 3)),
    (covers.cover_answer, (THREE, (2, 2, 2))), (covers.cover_answer, (((0, 1), (3,)), (4, 1))),
    (covers.cover_or_packing, (THREE, (2, 2, 2), 5, 2)), (covers.least_whole, (THREE, (2, 2, 2))),
    (covers.packing_bound, (THREE, (2, 2, 2), (1, {2: 1, 1: 1, 0: 0}))), (covers.cover_corners, (THREE,)),
    (ranks.step_rank, ((0, 1), (1,))), (ranks.parity_rank, ((0, 1, 2), (0, 1, 2))),
    (ranks.sum_rank, ((0, 1), STEP, STEP)), (ranks.scaled_rank, ((0, 1), STEP, 3)),
    (ranks.restricted_rank, ((0, 1), STEP, (1,))), (ranks.contracted_rank, ((0, 1), STEP, (1,))),
    (ranks.basic_sums, ((0, 1, 2),)), (ranks.rank_parts, ((0, 1), STEP)), (ranks.rank_fault, ((0, 1), STEP)),
)


def dicts_in(value):
    if isinstance(value, dict):
        return [value]
    return [found for inner in value for found in dicts_in(inner)] if isinstance(value, tuple) else []


class InterfaceTest(unittest.TestCase):
    def test_names_arguments_and_files(self):
        for name, words in INTERFACE.items():
            module = import_module("crestjoin." + name)
            for word in words.split():
                called, arguments = word[:-1].split("(")
                made = getattr(module, called)
                self.assertEqual(made.__module__, "crestjoin." + name)
                self.assertEqual(list(inspect.signature(made).parameters), arguments.split(","))

    def test_methods_stand_in_their_classes(self):
        for kind, methods in METHODS.items():
            for method in methods:
                self.assertIn(method, vars(kind))
        self.assertEqual(list(inspect.signature(SOME_QUESTION.with_part).parameters), ["index", "table"])

    def test_nine_digits_are_let_everywhere_alike(self):
        self.assertEqual(checks.GREATEST, 10 ** tables.MAX_DIGITS - 1)


class ConventionsTest(unittest.TestCase):
    def test_equal_calls_have_equal_results_and_change_nothing(self):
        """[0.2]"""
        for call, args in CALLS:
            before = shown(args)
            first = call(*args)
            told = shown(first)
            self.assertEqual(shown(call(*args)), told)
            self.assertEqual(shown(args), before)

    def test_no_two_results_share_state(self):
        """[0.2]: a dict that was returned can be changed by who has it."""
        for call, args in CALLS:
            told = shown(call(*args))
            for found in dicts_in(call(*args)):
                found.clear()
            self.assertEqual(shown(call(*args)), told)
            before = shown(args)
            for found in dicts_in(call(*args)):
                found[None] = 1
            self.assertEqual(shown(args), before)

    def test_returned_dicts_have_ascending_keys(self):
        """[0.1]"""
        seen = 0
        for call, args in CALLS:
            for found in dicts_in(call(*args)):
                self.assertEqual(list(found), sorted(found))
                seen += 1
        self.assertGreater(seen, 12)

    def test_results_are_built_of_tuples(self):
        """[0.1]"""
        def kinds(value):
            if isinstance(value, dict):
                inner = list(value) + list(value.values())
            else:
                inner = list(value) if isinstance(value, tuple) else []
            return {type(value)}.union(*[kinds(one) for one in inner])
        for call, args in CALLS:
            self.assertLessEqual(kinds(call(*args)), {tuple, dict, int, str, Table, Question, type(None)})

    def test_booleans_are_no_integers(self):
        """[0.1]"""
        for value in (True, False):
            refused(self, InvalidNumber, numbers.power_for, (value,), value)
            self.assertIs(tables.is_row((0,), (value,)), False)
            self.assertIs((value, 1) in SOME_TABLE, False)

    def test_nine_digits_and_one_more(self):
        """[0.1]"""
        self.assertEqual(Table((0,), ((GREATEST,), (-GREATEST,))).rows, ((-GREATEST,), (GREATEST,)))
        for value in (LONG, -LONG):
            self.assertIs(tables.is_row((0,), (value,)), False)
            refused(self, InvalidNumber, tables.choose, (SOME_TABLE, 0, value), value)

    def test_objects_cannot_be_iterated_over(self):
        """[0.2]"""
        for thing in (SOME_TABLE, SOME_QUESTION, Table((), ()), Question((), ())):
            for use in (iter, list, tuple, sorted, lambda it: [*it], dict, lambda it: max(it)):
                with self.assertRaises(TypeError):
                    use(thing)

    def test_equality_takes_every_value(self):
        """[0.2]"""
        for thing in (SOME_TABLE, SOME_QUESTION):
            for value in ODD + (HUGE, LONG, (), [[]], {None: []}, object(), 1.5, b"", thing.lot):
                self.assertEqual((thing == value, thing != value, value == thing, value != thing),
                                 (False, True, False, True))
        for value in ODD + (HUGE, (HUGE, 1), SOME_TABLE, SOME_QUESTION, object(), (object(), 1), 1.5, ([], {}), b"ab"):
            self.assertEqual((value in SOME_TABLE, value not in SOME_TABLE), (False, True))


if __name__ == "__main__":
    unittest.main()
