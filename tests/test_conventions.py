"""The conventions [0.1] to [0.6] for all that is there, and the interface: names, arguments and their files."""

import inspect
import unittest
from importlib import import_module

from crestjoin.base import checks, lots, numbers
from crestjoin.change import kept
from crestjoin.change.kept import Kept
from crestjoin.cover import covers
from crestjoin.errors import InvalidNumber
from crestjoin.exact import linear
from crestjoin.flow import flows, parts, plans, rules
from crestjoin.judge import answers, judge
from crestjoin.letter import orders, search
from crestjoin.rank import degrees, papers, ranks
from crestjoin.reach import made
from crestjoin.table import joins, tables
from crestjoin.table.joins import Question
from crestjoin.table.tables import Table
from crestjoin.tree import bags, several, sums, webs
from crestjoin.use import texts
from crestjoin.use.bench import Bench
from crestjoin.within import maps
from tests.support import (
    GREATEST, HUGE, LONG, ODD, SOME_BENCH, SOME_KEPT, SOME_QUESTION, SOME_TABLE, refused, shown,
)

INTERFACE = {
    "base.lots": "is_lot(value) joined_lot(one,other) common_lot(one,other) rest_lot(one,other) is_within(one,other) "
                 "are_apart(one,other) lots_within(lot) lots_on(lots)",
    "base.numbers": "power_for(number) is_below(number,bound) most_within(bound) compare_bounds(one,other) "
                    "least_terms(bound)",
    "table.tables": "is_row(lot,value) Table(lot,rows) project(table,lot) degree(table,low,high) above(table,low,high) "
                    "choose(table,letter,number) section(table,lot,row) united(one,other) common(one,other) "
                    "less(one,other) renamed(table,names)",
    "table.joins": "join(one,other) join_size(one,other) semi(one,other) stuck(one,other) join_all(tables) "
                   "Question(lot,parts) answer(question) board(question,many) is_answer_row(question,value)",
    "letter.search": "searched(question,order) begun_rows(question,order,many) asked(question,order,row) "
                     "product_of(sizes,cover) are_looks_within(looks,sizes,cover)",
    "exact.linear": "is_point(value) does_fit(rows,sides,many,value) value_of(costs,point) "
                    "linear_answer(rows,sides,costs) is_linear(rows,sides,costs,value) corners(rows,sides,many) "
                    "is_corner(rows,sides,many,value)",
    "cover.covers": "is_cover(lots,value) is_packing(lots,exponents,value) cover_bound(lots,exponents,cover) "
                    "packing_bound(lots,exponents,packing) cover_answer(lots,exponents) "
                    "is_cover_answer(lots,exponents,value) cover_or_packing(lots,exponents,p,D) "
                    "least_whole(lots,exponents) cover_corners(lots) exponents_of(sizes)",
    "rank.ranks": "is_rank(lot,value) rank_fault(lot,value) step_rank(lot,some) parity_rank(lot,some) "
                  "sum_rank(lot,one,other) scaled_rank(lot,rank,number) restricted_rank(lot,rank,some) "
                  "contracted_rank(lot,rank,some) basic_sums(lot) rank_parts(lot,rank)",
    "rank.papers": "made_sum(lot,crossings,drops) value_at(lot,total,rank) inequality_answer(lot,total) "
                   "is_inequality_answer(lot,total,value) cover_total(lot,lots,weights,k) "
                   "greater_total(lot,total,some) lesser_total(lot,total,some)",
    "rank.degrees": "is_told(lot,value) keeps(question,told) exact_told(question,pairs) does_keep(lot,told,s,rank) "
                    "reached_letters(lot,told) bound_answer(lot,told,p,D) is_bound_answer(lot,told,p,D,value) "
                    "least_bound(lot,told) is_least_bound(lot,told,value)",
    "flow.flows": "is_flow(lot,value) inflow(lot,flow,some) weight_of(lot,flow) steps_of(lot,flow) "
                  "are_steps(lot,flow,value) without(lot,flow,some) is_without(lot,flow,some,value) "
                  "scaled_flow(lot,flow,number) flow_sum(lot,one,other)",
    "flow.parts": "level_of(number) groups_of(table,low) parted(table,low,k) is_parted(table,low,k,value) most_parts(k) "
                  "put_together(pieces)",
    "flow.plans": "plan_bound(question,told,flow) run(question,told,flow) is_log(question,told,flow,value) "
                  "log_answer(question,told,flow,log) log_sizes(question,told,flow,log) "
                  "log_counts(question,told,flow,log)",
    "flow.rules": "rule_answer(lot,goals,told,p,D) is_rule_answer(lot,goals,told,p,D,value) rule_bound(lot,goals,told) "
                  "is_rule_bound(lot,goals,told,value) rule_run(question,told,flow) "
                  "is_rule_run(question,told,flow,value) does_hold(question,tables) are_even(question,goals) "
                  "share(question,tables)",
    "reach.made": "are_vectors(lot,value) vector_rank(lot,vectors) made_table(lot,vectors) step_vectors(lot,counts) "
                  "beside(lot,one,other) step_counts(lot,rank) reaching(lot,lots,vectors) "
                  "is_reached(lot,told,vectors,p,D)",
    "letter.orders": "do_go_along(lot,told,order) letter_bound(lot,told,order) is_letter_bound(lot,told,order,value) "
                     "are_weights(lot,told,value) are_numbers(lot,told,value) searched_by(question,told,order) "
                     "full_question(lot,lots,numbers)",
    "tree.webs": "is_tree(lots,value) is_stuck(lots,value) fold_answer(lots) is_fold(lots,value) sequence_of(lots,tree) "
                 "reduced(question,tree) tree_answer(question,tree)",
    "tree.sums": "plain_sum(question,weights,kind,kept) tree_sum(question,tree,weights,kind,kept) "
                 "notes(question,tree,weights,kind) shares(question,tree,weights,kind) best_row(question,tree,weights) "
                 "is_best_row(question,tree,weights,value) count(question,tree)",
    "tree.bags": "is_bags(lots,value) bags_of(lots,order) bag_tables(question,bags) bag_answer(question,bags) "
                 "width(lots,told,bags) least_width(lots,told) is_least_width(lots,told,value)",
    "tree.several": "choices(lots,many) several_tables(question,told,many,flows) are_several(question,many,value) "
                    "several_truth(question,many,told_tables)",
    "within.maps": "is_rule(value) is_store(value) own_store(rule) rule_answer(rule,store) within_answer(one,other) "
                   "is_within_answer(one,other,value) least_rule(rule) is_least(rule,value) are_alike(one,other) "
                   "are_same(one,other)",
    "change.kept": "brought(question,index,row) look_bounds(question,index) Kept(question)",
    "judge.judge": "is_claim(value) opposite(claim) takes(claim,value)",
    "judge.answers": "answered(claim)",
    "use.texts": "lot_text(lot) table_text(table) question_text(question) told_text(lot,told) flow_text(lot,flow) "
                 "read_lot(text) read_table(text) read_question(text) read_told(lot,text) read_flow(lot,text)",
    "use.bench": "Bench()",
}
CONSTANTS = {
    "table.tables": {"MOST_ROWS": 1000, "MAX_DIGITS": 9}, "table.joins": {"MOST_PARTS": 12, "MOST_JOINED": 100000},
    "exact.linear": {"MOST_COLUMNS": 12, "MOST_ROWS": 24, "MOST_CHOICES": 5000}, "flow.flows": {"MOST_COUNTS": 200},
    "reach.made": {"MOST_SOURCES": 12, "MOST_VECTORS": 12}, "tree.webs": {"MOST_PARTS": 12},
    "within.maps": {"MOST_ATOMS": 8, "MOST_PLACES": 4, "MOST_STORED": 24}, "change.kept": {"MOST_CHANGES": 500},
}
METHODS = {
    Table: ("__init__", "lot", "rows", "__len__", "__contains__", "__eq__", "__str__"),
    Question: ("__init__", "lot", "parts", "lots", "sizes", "with_part", "__len__", "__eq__", "__str__"),
    Kept: ("__init__", "question", "answer", "looks", "changes", "put", "take", "undo", "twin", "__len__", "__contains__",
           "__eq__", "__str__"),
    Bench: ("__init__", "tell", "lines", "table", "names", "question", "__len__", "__str__"),
}
ARGUMENTS = ((SOME_QUESTION.with_part, "index table"), (SOME_KEPT.put, "index row"), (SOME_KEPT.take, "index row"),
             (SOME_KEPT.undo, ""), (SOME_KEPT.twin, ""), (SOME_BENCH.tell, "line"), (SOME_BENCH.table, "name"))

THREE = ((0, 1), (0, 2), (1, 2))
RING = ((1, 1, 0), (0, 1, 1), (1, 0, 1))
STEP = {(): 0, (0,): 0, (0, 1): 1, (1,): 1}
ABC, SIDES = (0, 1, 2), (((), (0, 1), 4), ((), (0, 2), 4), ((), (1, 2), 4))
WEB = (((ABC, 2),), (((), (0, 1), 1), ((), (0, 2), 1), ((), (1, 2), 1)), (((0,), (1, 2), 1), ((0, 1), (0, 2), 1)), ())
ASK = Question(ABC, tuple(Table(lot, ((0, 0), (0, 1), (1, 0))) for lot in THREE))
PAIR = Question(ABC, ASK.parts[::2])
ONES = tuple({row: 1 for row in part.rows[::-1]} for part in PAIR.parts)
WHEEL = ((0, 1), (1, 2), (2, 3), (0, 3))
SPLIT, OTHER = (((0, 1, 2), (0, 2, 3)), (None, 0)), (((0, 1, 3), (1, 2, 3)), (None, 0))
RULE, EASY = ((0,), (("f", (1, 0)), ("e", (1, 0)), ("e", (0, 2)))), ((0,), (("e", (5, 0)), ("e", (0, 3))))
CALLS = (
    (lots.lots_within, ((0, 1, 3),)), (lots.lots_on, (THREE,)), (numbers.most_within, ((7, 2),)),
    (Table, ((0,), ((2,), (1,)))), (tables.project, (SOME_TABLE, (1,))), (tables.above, (SOME_TABLE, (1,), (0, 1))),
    (tables.renamed, (SOME_TABLE, {1: 0, 0: 5})), (tables.united, (SOME_TABLE, SOME_TABLE)),
    (joins.join, (SOME_TABLE, Table((1, 2), ((1, 4), (0, 2))))), (joins.answer, (SOME_QUESTION,)),
    (joins.join_all, ((SOME_TABLE, SOME_TABLE),)), (Question, ((0, 1), (SOME_TABLE,))),
    (SOME_QUESTION.with_part, (0, SOME_TABLE)), (search.searched, (SOME_QUESTION, (1, 0))),
    (search.begun_rows, (SOME_QUESTION, (1, 0), 1)), (search.asked, (SOME_QUESTION, (1, 0), (0,))),
    (linear.linear_answer, (RING, (1, 1, 1), (1, 1, 1))), (linear.linear_answer, (((1, -1),), (0,), (-1, 0))),
    (linear.linear_answer, (((1,), (-1,)), (3, -2), (0,))), (linear.corners, (RING, (1, 1, 1), 3)),
    (covers.cover_answer, (THREE, (2, 2, 2))), (covers.cover_answer, (((0, 1), (3,)), (4, 1))),
    (covers.cover_or_packing, (THREE, (2, 2, 2), 5, 2)), (covers.least_whole, (THREE, (2, 2, 2))),
    (covers.packing_bound, (THREE, (2, 2, 2), (1, {2: 1, 1: 1, 0: 0}))), (covers.cover_corners, (THREE,)),
    (ranks.step_rank, ((0, 1), (1,))), (ranks.parity_rank, ((0, 1, 2), (0, 1, 2))),
    (ranks.sum_rank, ((0, 1), STEP, STEP)), (ranks.scaled_rank, ((0, 1), STEP, 3)),
    (ranks.restricted_rank, ((0, 1), STEP, (1,))), (ranks.contracted_rank, ((0, 1), STEP, (1,))),
    (ranks.basic_sums, ((0, 1, 2),)), (ranks.rank_parts, ((0, 1), STEP)), (ranks.rank_fault, ((0, 1), STEP)),
    (papers.made_sum, (ABC, (((0,), (1, 2), 2),), (((), (0,), 1),))), (papers.inequality_answer, (ABC, {(1,): 1, (0,): 1})),
    (papers.inequality_answer, ((0, 1), {(1,): 1, (0,): -1})), (papers.value_at, ((0, 1), {(1,): 2}, STEP)),
    (papers.cover_total, (ABC, THREE, (1, 1, 1), 2)), (papers.greater_total, (ABC, {(1,): 1, (0,): 1}, (2,))),
    (papers.lesser_total, (ABC, {(1,): 1, (0, 1): 1}, (1,))), (degrees.exact_told, (SOME_QUESTION, (((), (0, 1)),))),
    (degrees.least_bound, (ABC, SIDES)), (degrees.least_bound, (ABC, SIDES[:1])), (degrees.bound_answer, (ABC, SIDES, 11, 2)),
    (degrees.bound_answer, (ABC, SIDES, 6, 1)), (degrees.keeps, (SOME_QUESTION, (((), (0, 1), 1),))),
    (flows.steps_of, (ABC, WEB)), (flows.without, (ABC, WEB, (0, 1))), (flows.scaled_flow, (ABC, WEB, 3)),
    (flows.flow_sum, (ABC, WEB, WEB)), (flows.inflow, (ABC, WEB, ABC)), (parts.groups_of, (SOME_TABLE, (1,))),
    (parts.parted, (SOME_TABLE, (0,), 2)), (parts.put_together, (((0, SOME_TABLE), (1, SOME_TABLE)),)),
    (plans.run, (ASK, SIDES, WEB)), (plans.plan_bound, (ASK, SIDES, WEB)), (rules.rule_run, (ASK, SIDES, WEB)),
    (rules.rule_bound, (ABC, ((0, 1), ABC), SIDES)), (rules.rule_answer, (ABC, (ABC,), SIDES, 5, 1)),
    (rules.share, (SOME_QUESTION, {(1,): Table((1,), ((0,),))})), (made.vector_rank, ((0, 1), ((1,), (3,)))),
    (made.made_table, ((0, 1), ((1,), (3,)))), (made.step_vectors, ((0, 1), {(0, 1): 2, (0,): 1})),
    (made.beside, ((0, 1), ((1,), (3,)), ((1,), (3,)))), (made.step_counts, ((0, 1), STEP)),
    (made.reaching, ((0, 1), ((0,), (0, 1)), ((1,), (3,)))), (orders.letter_bound, (ABC, SIDES, (2, 0, 1))),
    (orders.letter_bound, (ABC, SIDES[:1], (2, 0, 1))), (orders.searched_by, (ASK, SIDES, (2, 0, 1))),
    (orders.full_question, ((0, 1), ((0,), (0, 1)), {1: 2, 0: 1})), (webs.fold_answer, (THREE,)),
    (webs.fold_answer, (((0, 1), (1, 2)),)), (webs.sequence_of, (((0, 1), (1, 2)), (1, None))),
    (webs.reduced, (PAIR, (1, None))), (webs.tree_answer, (PAIR, (1, None))), (sums.plain_sum, (PAIR, ONES, ("least",), (1,))),
    (sums.tree_sum, (PAIR, (1, None), ONES, ("sum", 0), (0, 1))), (sums.notes, (PAIR, (1, None), ONES, ("truth",))),
    (sums.shares, (PAIR, (1, None), ONES, ("sum", 3))), (sums.best_row, (PAIR, (1, None), ONES)),
    (sums.count, (PAIR, (1, None))), (bags.bags_of, (WHEEL, (2, 0, 1, 3))), (bags.bag_tables, (PAIR, ((ABC,), (None,)))),
    (bags.bag_answer, (PAIR, ((ABC,), (None,)))), (bags.width, (THREE, SIDES, ((ABC,), (None,)))),
    (bags.least_width, (THREE, SIDES)), (several.choices, (WHEEL, (SPLIT, OTHER))),
    (several.several_tables, (ASK, SIDES, (((ABC,), (None,)),), (WEB,))), (maps.own_store, (RULE,)),
    (maps.rule_answer, (RULE, {"f": ((1, 0),), "e": ((1, 0), (0, 5))})), (maps.within_answer, (RULE, EASY)),
    (maps.within_answer, (EASY, RULE)), (maps.least_rule, (RULE,)), (maps.are_same, (RULE, EASY)),
    (kept.brought, (PAIR, 0, (0, 1))), (kept.look_bounds, (PAIR, 0)), (judge.opposite, (("holds", ABC, {(1,): 2, (0,): 1}),)),
    (answers.answered, (("fails", ABC, {(1,): 2, (0,): 1}),)), (answers.answered, (("holds", ABC, {(1,): 2, (0,): -1}),)),
    (answers.answered, (("cover", THREE, (2, 2, 2), 2, 1),)), (answers.answered, (("within", RULE, EASY),)),
    (answers.answered, (("beyond", EASY, RULE),)), (answers.answered, (("below", ABC, SIDES, 11, 2),)),
    (texts.flow_text, (ABC, WEB)), (texts.read_flow, (ABC, "goal a 1\nterm - a 1\n")), (texts.told_text, (ABC, SIDES)),
    (texts.read_question, ("question ab\ntable b\n1\ntable a\n",)), (texts.read_told, (ABC, "- ab 1\n")),
)


def dicts_in(value):
    if isinstance(value, dict):
        return [value]
    return [found for inner in value for found in dicts_in(inner)] if isinstance(value, tuple) else []


class InterfaceTest(unittest.TestCase):
    def test_names_arguments_and_files(self):
        for name, words in INTERFACE.items():
            module = import_module("crestjoin." + name)
            for word in words.split():
                called, arguments = word[:-1].split("(")
                made = getattr(module, called)
                self.assertEqual(made.__module__, "crestjoin." + name)
                self.assertEqual(",".join(inspect.signature(made).parameters), arguments)

    def test_constants(self):
        for name, constants in CONSTANTS.items():
            for constant, value in constants.items():
                self.assertEqual(getattr(import_module("crestjoin." + name), constant), value)

    def test_methods_stand_in_their_classes(self):
        for kind, methods in METHODS.items():
            for method in methods:
                self.assertIn(method, vars(kind))
        for method, arguments in ARGUMENTS:
            self.assertEqual(list(inspect.signature(method).parameters), arguments.split())

    def test_nine_digits_are_let_everywhere_alike(self):
        self.assertEqual(checks.GREATEST, 10 ** tables.MAX_DIGITS - 1)


class ConventionsTest(unittest.TestCase):
    def test_equal_calls_have_equal_results_and_change_nothing(self):
        """[0.2]"""
        for call, args in CALLS:
            before = shown(args)
            first = call(*args)
            told = shown(first)
            self.assertEqual(shown(call(*args)), told)
            self.assertEqual(shown(args), before)

    def test_no_two_results_share_state(self):
        """[0.2]: a dict that was returned can be changed by who has it."""
        for call, args in CALLS:
            told = shown(call(*args))
            for found in dicts_in(call(*args)):
                found.clear()
            self.assertEqual(shown(call(*args)), told)
            before = shown(args)
            for found in dicts_in(call(*args)):
                found[None] = 1
            self.assertEqual(shown(args), before)

    def test_returned_dicts_have_ascending_keys(self):
        """[0.1]"""
        seen = 0
        for call, args in CALLS:
            for found in dicts_in(call(*args)):
                self.assertEqual(list(found), sorted(found))
                seen += 1
        self.assertGreater(seen, 12)

    def test_results_are_built_of_tuples(self):
        """[0.1]"""
        def kinds(value):
            if isinstance(value, dict):
                inner = list(value) + list(value.values())
            else:
                inner = list(value) if isinstance(value, tuple) else []
            return {type(value)}.union(*[kinds(one) for one in inner])
        for call, args in CALLS:
            self.assertLessEqual(kinds(call(*args)), {tuple, dict, int, str, bool, Table, Question, type(None)})

    def test_booleans_are_no_integers(self):
        """[0.1]"""
        for value in (True, False):
            refused(self, InvalidNumber, numbers.power_for, (value,), value)
            self.assertIs(tables.is_row((0,), (value,)), False)
            self.assertIs((value, 1) in SOME_TABLE, False)

    def test_nine_digits_and_one_more(self):
        """[0.1]"""
        self.assertEqual(Table((0,), ((GREATEST,), (-GREATEST,))).rows, ((-GREATEST,), (GREATEST,)))
        for value in (LONG, -LONG):
            self.assertIs(tables.is_row((0,), (value,)), False)
            refused(self, InvalidNumber, tables.choose, (SOME_TABLE, 0, value), value)

    def test_objects_cannot_be_iterated_over(self):
        """[0.2]"""
        for thing in (SOME_TABLE, SOME_QUESTION, Table((), ()), Question((), ()), SOME_KEPT, SOME_BENCH, Bench()):
            for use in (iter, list, tuple, sorted, lambda it: [*it], dict, lambda it: max(it)):
                with self.assertRaises(TypeError):
                    use(thing)

    def test_equality_takes_every_value(self):
        """[0.2]"""
        for thing in (SOME_TABLE, SOME_QUESTION, SOME_KEPT):
            for value in ODD + (HUGE, LONG, (), [[]], {None: []}, object(), 1.5, b"", (thing,)):
                self.assertEqual((thing == value, thing != value, value == thing, value != thing),
                                 (False, True, False, True))
        for value in ODD + (HUGE, (HUGE, 1), SOME_TABLE, SOME_QUESTION, object(), (object(), 1), 1.5, ([], {}), b"ab"):
            self.assertEqual((value in SOME_TABLE, value not in SOME_TABLE), (False, True))
            self.assertEqual((value in SOME_KEPT, value not in SOME_KEPT), (False, True))


if __name__ == "__main__":
    unittest.main()
