"""Several trees of bags at once [18.5], [18.6]: crestjoin.tree.several."""

import random
import unittest
from itertools import product
from unittest.mock import patch

from crestjoin.errors import (
    InvalidFlow, InvalidLot, InvalidOperation, InvalidQuestion, InvalidTold, Refused, TooMany,
)
from crestjoin.flow import logs
from crestjoin.flow.flows import scaled_flow
from crestjoin.flow.rules import rule_bound
from crestjoin.rank.degrees import exact_told
from crestjoin.table.joins import Question, answer
from crestjoin.table.tables import Table
from crestjoin.tree.bags import bags_of, is_bags, width
from crestjoin.tree.several import are_several, choices, several_tables, several_truth
from tests.folds import SIX, letters_of
from tests.runs import skewed_table
from tests.support import (
    BOOLS, HUGE, LONG_NUMBERS, OBJECTS, ODD, SOME_TABLE, WRONG_LOTS, WRONG_QUESTIONS, check_judge, check_wrongs,
    part_of, random_table, refused, shown, wrong_flows, wrong_told,
)

WHEEL, FOUR = ((0, 1), (1, 2), (2, 3), (0, 3)), (0, 1, 2, 3)
SPLIT, OTHER = (((0, 1, 2), (0, 2, 3)), (None, 0)), bags_of(WHEEL, FOUR)
BOTH = (SPLIT, OTHER)
EDGES = tuple(((), lot, 2) for lot in sorted(WHEEL))
FIVE = ((0, 1), (1, 2), (2, 3), (3, 4), (0, 4))
# Two trees of eight bags over six lots without common letters, no bag of the one being one of the other one.
SINGLES = tuple((letter,) for letter in SIX)
EIGHT = (((),) + SINGLES + ((0, 1),), (1, None, 7, 1, 1, 1, 1, 1))
PATHS = (((0, 2), (2, 4), (4, 5), (3, 5), (1, 3), (0, 2, 4), (2, 4, 5), (3, 4, 5)), (5, 5, 7, 7, 7, None, 5, 6))


def choices_plainly(many):
    return tuple(sorted({tuple(sorted(set(taken))) for taken in product(*[bags for bags, _ in many])}))


def drawn_wheels(seed, times, web=WHEEL):
    """Questions on a ring, some without answer, with told degrees that they keep."""
    chance = random.Random(seed)
    for _ in range(times):
        many, numbers = chance.choice(((0, 1), (2, 2), (4, 4), (9, 6), (16, 6), (40, 16)))
        question = Question(letters_of(web), tuple(skewed_table(chance, lot, many, numbers) for lot in web))
        pairs = [((), lot) for lot in web] + [((lot[0],), lot) for lot in web if chance.random() < 0.3]
        yield question, exact_told(question, tuple(pairs))


def least_flows(question, told, many):
    return tuple(rule_bound(question.lot, tuple(bag for bag in choice if bag), told)[2]
                 for choice in choices_plainly(many))


def are_several_plainly(question, many, value):
    """Whether tables of the right form have each row of the answer, for each choice."""
    rows = answer(question).rows
    return all(any(part_of(question.lot, row, bag) in set(table.rows) for bag, table in tables.items())
               for tables in value for row in rows)


def own_tables(chance, question, many, numbers, share):
    """Tables of the test's own: for each choice each row of the answer at a drawn bag, and other rows."""
    found = []
    for choice in choices_plainly(many):
        tables = {bag: set(random_table(chance, bag, numbers, 3).rows) for bag in choice}
        for row in answer(question).rows:
            if chance.random() < share:
                bag = chance.choice(choice)
                tables[bag].add(part_of(question.lot, row, bag))
        found.append({bag: Table(bag, tuple(tables[bag])) for bag in choice[::chance.choice((1, -1))]})
    return tuple(found)


class ChoicesTest(unittest.TestCase):
    def test_choices_by_taking_one_bag_of_each_tree(self):
        """[18.5]"""
        trees = [SPLIT, OTHER, ((FOUR,), (None,)), (((0, 1, 2), (0, 2, 3), (0, 2)), (None, 0, 0)),
                 ((FOUR, (1,), (), (0, 1, 2)), (None, 0, 0, 0))]
        chance = random.Random(189)
        for _ in range(60):
            many = tuple(chance.choice(trees) for _ in range(chance.randint(1, 4)))
            before = shown(many)
            self.assertEqual(choices(WHEEL, many), choices_plainly(many))
            self.assertEqual(shown(many), before)
        self.assertEqual(choices(WHEEL, BOTH), (
            ((0, 1, 2), (0, 1, 3)), ((0, 1, 2), (1, 2, 3)), ((0, 1, 3), (0, 2, 3)), ((0, 2, 3), (1, 2, 3))))
        self.assertEqual(choices(WHEEL, (SPLIT,)), (((0, 1, 2),), ((0, 2, 3),)))
        self.assertEqual(choices(WHEEL, (SPLIT, SPLIT)), (((0, 1, 2),), ((0, 1, 2), (0, 2, 3)), ((0, 2, 3),)))
        self.assertEqual(choices((), (((), ()),)), ())
        self.assertEqual(choices((), (((), ()), (((),), (None,)))), ())
        self.assertEqual(choices(((),), ((((),), (None,)),)), (((),),))

    def test_sixty_four_choices_and_more(self):
        self.assertTrue(is_bags(SINGLES, EIGHT) and is_bags(SINGLES, PATHS))
        told = choices(SINGLES, (EIGHT, PATHS))
        self.assertEqual((len(told), told), (64, choices_plainly((EIGHT, PATHS))))
        nine = (PATHS[0] + ((4,),), PATHS[1] + (5,))
        self.assertIs(is_bags(SINGLES, nine), True)
        self.assertEqual(len(choices_plainly((EIGHT, nine))), 72)
        refused(self, TooMany, choices, (SINGLES, (EIGHT, nine)), 64)
        refused(self, TooMany, choices, (SINGLES, (EIGHT, PATHS, EIGHT)), 64)
        self.assertEqual(len(choices(SINGLES, (EIGHT, EIGHT))), 36)


class TablesTest(unittest.TestCase):
    def test_each_row_stands_in_one_table_of_each_choice(self):
        """[18.5]: as runs make them; each table is within its flow's bound."""
        seen = {True: 0, False: 0}
        for web, many, times in ((WHEEL, BOTH, 40), (WHEEL, (SPLIT,), 10), (WHEEL, (SPLIT, SPLIT, OTHER), 8),
                                 (FIVE, tuple(bags_of(FIVE, order) for order in ((0, 1, 2, 3, 4), (1, 3, 0, 2, 4))), 8)):
            for question, told in drawn_wheels(188, times, web):
                flows = least_flows(question, told, many)
                before = shown((question, told, many, flows))
                value = several_tables(question, told, many, flows)
                self.assertEqual(shown((question, told, many, flows)), before)
                self.assertEqual([tuple(tables) for tables in value], list(choices(web, many)))
                self.assertTrue(are_several_plainly(question, many, value))
                self.assertIs(are_several(question, many, value), True)
                has_rows = len(answer(question)) > 0
                self.assertIs(several_truth(question, many, value), has_rows)
                seen[has_rows] += 1
                for tables, flow in zip(value, flows):
                    cost = sum(n * min(k for one, other, k in told if (one, other) == (low, high))
                               for low, high, n in flow[1])
                    weight = sum(n for _, n in flow[0])
                    for bag, table in tables.items():
                        self.assertEqual(table.lot, bag)
                        self.assertLessEqual(len(table) ** weight, 2 ** cost)
        self.assertGreater(min(seen.values()), 10)

    def test_the_ring_of_four_is_told_with_less(self):
        """[18.5]: each choice within 2 ** (3 / 2 k), both of its trees alone within 2 ** (2 k)."""
        for choice in choices(WHEEL, BOTH):
            self.assertEqual(rule_bound(FOUR, choice, EDGES)[1], (3, 1))
        self.assertEqual([width(WHEEL, EDGES, bags) for bags in BOTH], [(4, 1), (4, 1)])

    def test_goals_for_some_bags_alone(self):
        for question, told in drawn_wheels(190, 12):
            flows = tuple(rule_bound(FOUR, choice[:1], told)[2] for choice in choices(WHEEL, BOTH))
            value = several_tables(question, told, BOTH, flows)
            for choice, tables in zip(choices(WHEEL, BOTH), value):
                self.assertEqual(tuple(tables), choice)
                self.assertEqual(len(tables[choice[1]]), 0)
            self.assertTrue(are_several_plainly(question, BOTH, value))
            self.assertIs(several_truth(question, BOTH, value), len(answer(question)) > 0)

    def test_tables_of_the_test_s_own(self):
        """[0.5]: whoever made them; a row that is left out is seen."""
        chance = random.Random(191)
        seen = {True: 0, False: 0}
        for question, _ in drawn_wheels(191, 60):
            for many in (BOTH, (OTHER,), (SPLIT, ((FOUR,), (None,)))):
                for share in (1, 0.97):
                    value = own_tables(chance, question, many, range(6), share)
                    right = are_several_plainly(question, many, value)
                    before = shown(value)
                    self.assertIs(are_several(question, many, value), right)
                    if right:
                        self.assertIs(several_truth(question, many, value), len(answer(question)) > 0)
                    else:
                        refused(self, InvalidOperation, several_truth, (question, many, value))
                    seen[right] += 1
                    self.assertEqual(shown(value), before)
        self.assertGreater(min(seen.values()), 20)

    def test_rows_without_an_answer_do_not_make_one(self):
        """Tables full of rows that no part has: looked up in the parts within the bags, too."""
        rows = tuple(product((0, 1), repeat=3))
        full = tuple({bag: Table(bag, rows) for bag in choice} for choice in choices(WHEEL, BOTH))
        even, odd = ((0, 0), (1, 1)), ((0, 1), (1, 0))
        for parts, truth in (((even, even, even, even), True), ((even, even, even, odd), False), ((odd,) * 4, True)):
            question = Question(FOUR, tuple(Table(lot, part) for lot, part in zip(WHEEL, parts)))
            self.assertIs(several_truth(question, BOTH, full), truth)
        dull = Question(FOUR, tuple(Table(lot, even) for lot in WHEEL) + (Table((), ()),))
        self.assertIs(several_truth(dull, BOTH, full), False)

    def test_edges(self):
        none, bag = Question((), ()), (((),), (None,))
        self.assertEqual(several_tables(none, (), (((), ()),), ()), ())
        self.assertIs(several_truth(none, (((), ()),), ()), True)
        self.assertIs(several_truth(none, (bag, ((), ())), ()), True)
        for rows in ((), ((),)):
            question = Question((), (Table((), rows),))
            self.assertIs(several_truth(question, (bag,), ({(): Table((), ((),))},)), rows != ())
            self.assertIs(are_several(question, (bag,), ({(): Table((), ())},)), rows == ())
            refused(self, InvalidFlow, several_tables, (question, (), (bag,), (((), (), (), ()),)))
            refused(self, InvalidFlow, several_tables, (question, (), (bag,), ()))

    def test_sixty_four_choices(self):
        question = Question(SIX, tuple(Table(lot, ((0,), (1,))) for lot in SINGLES))
        told = tuple(((), lot, 1) for lot in SINGLES) + (((), (5,), 3),)
        flows = []
        for choice in choices(SINGLES, (EIGHT, PATHS)):
            goal = max(choice, key=len)
            flows.append((((goal, 1),), tuple(((), (letter,), 1) for letter in goal),
                          tuple(sorted((tuple(goal[:at]), (goal[at],), 1) for at in range(1, len(goal)))), ()))
        value = several_tables(question, told, (EIGHT, PATHS), tuple(flows))
        self.assertEqual(len(value), 64)
        self.assertTrue(are_several_plainly(question, (EIGHT, PATHS), value))
        self.assertIs(several_truth(question, (EIGHT, PATHS), value), True)


class JudgeTest(unittest.TestCase):
    def test_are_several_as_a_judge(self):
        question = Question((0, 1, 2), (SOME_TABLE, Table((1, 2), ((0, 0), (1, 1)))))
        bags = ((((0, 1), (1, 2)), (None, 0)),)
        one, other = Table((0, 1), SOME_TABLE.rows + ((7, 7),)), Table((1, 2), ((0, 0), (1, 1)))
        right = [({(0, 1): SOME_TABLE}, {(1, 2): other}), ({(0, 1): one}, {(1, 2): other})]
        wrong = [({(0, 1): SOME_TABLE},), ({(1, 2): other}, {(0, 1): one}), right[0] + ({},), ({}, {}),
                 ({(0, 1): SOME_TABLE}, {(1, 2): Table((1, 2), ((0, 0),))}), ({(0, 1): other}, {(1, 2): other}),
                 ({(0, 1): SOME_TABLE, (1, 2): other}, {(1, 2): other}), ({(0, 1): SOME_TABLE.rows}, {(1, 2): other}),
                 ({(0, 1): SOME_TABLE}, ((1, 2), other)), ({(0, True): SOME_TABLE}, {(1, 2): other}),
                 ({(0, 1): SOME_TABLE}, {(1, 2): None}), ({0: SOME_TABLE}, {(1, 2): other}), None, (None, None),
                 ({(0, HUGE): SOME_TABLE}, {(1, 2): other}), ({(0, 1): question}, {(1, 2): other})]
        check_judge(self, lambda value: are_several(question, bags, value), right, wrong)
        empty = Question((0, 1), (Table((0, 1), ()),))
        nothing = ({(0, 1): Table((0, 1), ())},)
        check_judge(self, lambda value: are_several(empty, ((((0, 1),), (None,)),), value), [nothing], [(), ({},)])


class WrongArgumentsTest(unittest.TestCase):
    QUESTION = (InvalidQuestion, WRONG_QUESTIONS)
    WEB = ((0, 1), (1, 2))
    TREE = (WEB, (None, 0))
    MANY = (InvalidOperation, ODD + OBJECTS + BOOLS + LONG_NUMBERS + (
        0, (), TREE, (TREE,) * 5, [TREE], (TREE, None), (TREE, ()), (TREE, (WEB, (None, None))), ((list(WEB), (None, 0)),),
        ((((0, 1),), (None,)),), ((((0, 1, 2, 3),), (None,)),), ((WEB, (None, True)),), (None,), ((WEB, (None, HUGE)),),
        {0: TREE}, ((WEB + ((0, 2),), (None, 0, 0)),),
    ))
    LOTS = (InvalidLot, WRONG_LOTS[:-2] + (((0,),) * 13, ((1, 0),), ((0,), None), [(0,)], ([0],), ((True,),), ((6,),)))
    RIGHT = Question((0, 1, 2), (SOME_TABLE, Table((1, 2), ((0, 0), (1, 1)))))
    TOLD = (((), (0, 1), 2), ((), (1, 2), 1))
    FLOWS = tuple((((lot, 1),), (((), lot, 1),), (), ()) for lot in WEB)

    def test_choices(self):
        check_wrongs(self, choices, (self.WEB, (self.TREE,)), ((self.LOTS,), (self.MANY,)))

    def test_several_tables(self):
        one, other = self.FLOWS
        told = (InvalidTold, wrong_told((0, 1, 2)))
        flows = (InvalidFlow, ODD + OBJECTS + BOOLS + LONG_NUMBERS + (
            0, (), (one,), (one, other, other), (other, one), [one, other], (one, None), (None, other),
            (one, ((), (), (), ())), (one, ((), other[1], (), ())), (one, (one[0] + other[0], one[1] + other[1], (), ())),
            (one, ((((2,), 1),), (((), (1, 2), 1),), (), (((2,), (1, 2), 1),))), (one, scaled_flow((0, 1, 2), other, 1)[:3]),
        ) + tuple((one, value) for value in wrong_flows((0, 1))[:40]))
        right = (self.RIGHT, self.TOLD, (self.TREE,), self.FLOWS)
        check_wrongs(self, several_tables, right, ((self.QUESTION,), (told,), (self.MANY,), (flows,)))
        self.assertEqual(several_tables(*right)[1][(1, 2)].rows, ((0, 0), (1, 1)))

    def test_errors_of_runs(self):
        one, other = self.FLOWS
        right = (self.RIGHT, self.TOLD, (self.TREE,), self.FLOWS)
        strange = (((((1, 2), 1),), (((), (1,), 1), ((1,), (1, 2), 1)), (), ()))
        not_kept = self.TOLD + (((0,), (0, 1), 0),)
        great = scaled_flow((0, 1, 2), other, 201)
        for flows in ((one, strange), (scaled_flow((0, 1, 2), one, 201), strange)):
            refused(self, InvalidOperation, several_tables, right[:3] + (flows,))
            refused(self, InvalidOperation, several_tables, (self.RIGHT, not_kept, (self.TREE,), flows))
        for flows in (self.FLOWS, (one, great)):
            refused(self, Refused, several_tables, (self.RIGHT, not_kept, (self.TREE,), flows), ("degree", 2))
        refused(self, TooMany, several_tables, right[:3] + ((one, great),), 200)
        self.assertEqual(several_tables(*right[:3], (one, scaled_flow((0, 1, 2), other, 200)))[0], {(0, 1): SOME_TABLE})
        with patch.object(logs, "MOST_ENDS", 0):
            refused(self, TooMany, several_tables, right, 0)
            refused(self, TooMany, several_tables, right[:3] + ((one, great),), 200)

    def test_too_many_choices_come_ahead_of_flows(self):
        question = Question(SIX, tuple(Table(lot, ((0,), (1,))) for lot in SINGLES))
        for flows in (None, (), ((),) * 512):
            refused(self, TooMany, several_tables, (question, (), (EIGHT, PATHS, EIGHT), flows), 64)
        refused(self, InvalidFlow, several_tables, (question, (), (EIGHT, PATHS), ()))
        refused(self, InvalidTold, several_tables, (question, None, (EIGHT, PATHS, EIGHT), ()))
        for call in (are_several, several_truth):
            refused(self, TooMany, call, (question, (EIGHT, PATHS, EIGHT), ()), 64)

    def test_tables_that_were_told(self):
        value = ({(0, 1): SOME_TABLE}, {(1, 2): Table((1, 2), ((0, 0), (1, 1)))})
        tables = (InvalidOperation, ODD + OBJECTS + BOOLS + LONG_NUMBERS + (
            0, (), value[:1], value[::-1], value + ({},), [value[0], value[1]], ({(0, 1): SOME_TABLE}, {}),
            ({(0, 1): Table((0, 1), ((0, 1),))}, value[1]), ({(0, 1): None}, value[1]), ({(0, True): SOME_TABLE}, value[1]),
        ))
        check_wrongs(self, several_truth, (self.RIGHT, (self.TREE,), value), ((self.QUESTION,), (self.MANY,), (tables,)))
        for judged in (value, None):
            check_wrongs(self, are_several, (self.RIGHT, (self.TREE,), judged), ((self.QUESTION,), (self.MANY,), ()))

    def test_answers_of_too_many_rows(self):
        wide = Table((0,), tuple((n,) for n in range(1000)))
        for many in (100, 101):
            question = Question((0, 1), (wide, Table((1,), tuple((n,) for n in range(many)))))
            bags = ((((0,), (1,)), (None, 0)),)
            value = ({(0,): question.parts[0]}, {(1,): question.parts[1]})
            if many == 100:
                self.assertIs(several_truth(question, bags, value), True)
                self.assertIs(are_several(question, bags, value), True)
            else:
                refused(self, TooMany, several_truth, (question, bags, value), 100000)
                refused(self, TooMany, are_several, (question, bags, value), 100000)


class NotTrueTest(unittest.TestCase):
    def test_a_choice_s_bags_need_not_have_all_letters(self):
        """[18.6]"""
        self.assertEqual(choices(WHEEL, (SPLIT,))[0], ((0, 1, 2),))
        two = tuple(bags_of(FIVE, order) for order in ((0, 1, 2, 3, 4), (0, 2, 1, 3, 4)))
        self.assertLess(min(len(letters_of(choice)) for choice in choices(FIVE, two)), 5)


if __name__ == "__main__":
    unittest.main()
