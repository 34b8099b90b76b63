"""Rules with several goals [13.1] to [13.6], [0.14]: crestjoin.flow.rules."""

import random
import unittest
from fractions import Fraction
from itertools import combinations
from math import gcd
from unittest.mock import patch

from crestjoin.errors import (
    InvalidFlow, InvalidLot, InvalidNumber, InvalidOperation, InvalidQuestion, InvalidTold, Refused, TooMany,
)
from crestjoin.flow import logs
from crestjoin.flow.flows import scaled_flow
from crestjoin.flow.rules import (
    are_even, does_hold, is_rule_answer, is_rule_bound, is_rule_run, rule_answer, rule_bound, rule_run, share,
)
from crestjoin.rank.degrees import exact_told, least_bound
from crestjoin.rank.ranks import step_rank
from crestjoin.table.joins import Question, answer
from crestjoin.table.tables import Table
from tests.runs import Leader, drawn_flow_runs, drawn_runs, followed_plainly, skewed_table
from tests.support import (
    BOOLS, GREATEST, HUGE, LONG_NUMBERS, OBJECTS, ODD, SOME_QUESTION, SOME_TABLE, WRONG_LOTS, WRONG_QUESTIONS, all_lots,
    check_judge, check_wrongs, flows_plainly, part_of, plain_answer, random_question, ranks_plainly, refused, shown,
    some_ranks, wrong_flows, wrong_numbers, wrong_told,
)

ABC, FOUR = (0, 1, 2), (0, 1, 2, 3)
EDGES = tuple(((), some, 2) for some in ((0, 1), (0, 3), (1, 2), (2, 3)))
BOTH = ((0, 1, 2), (1, 2, 3))
LOTS = ((3,), (0, 4), ABC, (1, 2, 3, 5), (0, 1, 2, 4, 5))


def drawn_rules(seed, times):
    chance = random.Random(seed)
    for at in range(times):
        lot = LOTS[at % len(LOTS)]
        pairs = [(low, high) for high in all_lots(lot) for low in all_lots(high) if low != high]
        told = tuple(chance.choice(pairs) + (chance.randint(0, chance.choice((0, 4, 20))),)
                     for _ in range(chance.choice((0, 2, 6, 15))))
        if at % 3:
            told += (((), lot[:2], chance.randint(0, 20)), ((), lot[1:] or lot, chance.randint(0, 20)))
        goals = all_lots(lot)[1:]
        yield lot, tuple(sorted(chance.sample(goals, min(len(goals), chance.choice((1, 2, 3, 12)))))), told


def least_ks(told):
    return {(low, high): k for low, high, k in sorted(told, reverse=True)}


def keeps_plainly(told, s, h):
    return all(h[high] - h[low] <= s * k for low, high, k in told)


def cost_plainly(told, flow):
    return sum(n * least_ks(told)[(low, high)] for low, high, n in flow[1])


def is_paper_plainly(lot, goals, told, flow):
    """Whether a flow of the right form has its goals among these, a weight, and terms that are told."""
    return (flows_plainly(lot, flow) and flow[0] != () and all(some in goals for some, _ in flow[0])
            and all((low, high) in least_ks(told) for low, high, _ in flow[1]))


def weight(flow):
    return sum(n for _, n in flow[0])


def is_reached(goals, told):
    reached = set()
    for _ in range(7):
        for low, high, _ in told:
            if set(low) <= reached:
                reached |= set(high)
    return any(set(goal) <= reached for goal in goals)


def bound_of(lot, goals, told):
    value = rule_bound(lot, goals, told)
    return None if value[0] == "endless" else Fraction(*value[1])


class BoundTest(unittest.TestCase):
    def test_least_bounds(self):
        """[13.2]: its flow and its rank meet, or no goal is reached."""
        seen = set()
        for lot, goals, told in drawn_rules(131, 110):
            value = rule_bound(lot, goals, told)
            seen.add(value[0])
            self.assertIs(is_rule_bound(lot, goals, told, value), True)
            self.assertEqual(value[0] == "least", is_reached(goals, told))
            if value[0] == "endless":
                self.assertTrue(ranks_plainly(lot, value[1]) and all(value[1][goal] > 0 for goal in goals))
                self.assertTrue(keeps_plainly([(low, high, 0) for low, high, _ in told], 1, value[1]))
                continue
            _, (p, D), flow, s, h = value
            self.assertEqual((p >= 0, D >= 1, s >= 1, gcd(p, D)), (True, True, True, 1))
            self.assertTrue(is_paper_plainly(lot, goals, told, flow))
            self.assertEqual(cost_plainly(told, flow) * D, p * weight(flow))
            self.assertTrue(ranks_plainly(lot, h) and keeps_plainly(told, s, h))
            self.assertTrue(all(D * h[goal] >= p * s for goal in goals))
        self.assertEqual(seen, {"least", "endless"})

    def test_either_or(self):
        """[13.2], [0.14]"""
        seen = {"paper": 0, "rank": 0}
        for lot, goals, told in drawn_rules(132, 50):
            least = bound_of(lot, goals, told)
            tried = [(0, 1), (GREATEST, 1), (1, GREATEST)]
            if least is not None:
                p, D = least.numerator, least.denominator
                tried += [(p, D), (5 * p, 5 * D), (max(5 * p - 1, 0), 5 * D), (5 * p + 1, 5 * D)]
            for p, D in tried:
                value = rule_answer(lot, goals, told, p, D)
                seen[value[0]] += 1
                self.assertEqual(value[0] == "paper", least is not None and least <= Fraction(p, D))
                self.assertIs(is_rule_answer(lot, goals, told, p, D, value), True)
                if value[0] == "paper":
                    self.assertTrue(is_paper_plainly(lot, goals, told, value[1]))
                    self.assertLessEqual(cost_plainly(told, value[1]) * D, p * weight(value[1]))
                else:
                    _, s, h = value
                    self.assertTrue(s >= 1 and ranks_plainly(lot, h) and keeps_plainly(told, s, h))
                    self.assertTrue(all(D * h[goal] > p * s for goal in goals))
        self.assertGreater(min(seen.values()), 60)

    def test_never_both(self):
        """[13.2]: no rank that is tried is above the least bound at each goal."""
        for lot, goals, told in drawn_rules(133, 40):
            least = bound_of(lot, goals, told)
            for h in list(some_ranks(lot, 134, 20)) + [step_rank(lot, some) for some in all_lots(lot)[1:]]:
                if least is not None and keeps_plainly(told, 1, h):
                    self.assertLessEqual(min(h[goal] for goal in goals), least)

    def test_goals(self):
        """[13.5]: more goals, one goal alone, the whole lot, and the ring of four."""
        seen = 0
        for lot, goals, told in drawn_rules(135, 60):
            least = bound_of(lot, goals, told)
            alone = [bound_of(lot, (goal,), told) for goal in goals]
            self.assertEqual(least is None, all(one is None for one in alone))
            if least is not None:
                self.assertTrue(all(one is None or least <= one for one in alone))
                more = tuple(sorted(set(goals[:11]) | {lot}))
                fewer = bound_of(lot, goals[:11], told)
                self.assertTrue(fewer is None or bound_of(lot, more, told) <= fewer)
                seen += least < min(one for one in alone if one is not None)
            whole = least_bound(lot, told)
            self.assertEqual(rule_bound(lot, (lot,), told)[:1], whole[:1])
            self.assertEqual(bound_of(lot, (lot,), told), None if whole[0] == "endless" else Fraction(*whole[1]))
        for k in (1, 2, 20):
            edges = tuple(one[:2] + (k,) for one in EDGES)
            self.assertEqual(bound_of(FOUR, BOTH, edges), Fraction(3 * k, 2))
            self.assertEqual([bound_of(FOUR, (goal,), edges) for goal in BOTH], [2 * k, 2 * k])
            self.assertEqual(bound_of(FOUR, ((0, 1, 2), (0, 2, 3)), edges), 2 * k)

    def test_twelve_goals_of_five_letters(self):
        five = (0, 1, 2, 3, 4)
        goals = tuple(sorted(list(combinations(five, 3)) + [(0, 1), five]))
        self.assertEqual(len(goals), 12)
        told = tuple(((), some, 20) for some in combinations(five, 2)) + tuple((some[:1], some, 7)
                                                                               for some in combinations(five, 3))
        value = rule_bound(five, goals, told)
        self.assertEqual(value[1], (20, 1))
        self.assertEqual(rule_bound(five, goals[1:], told)[0], "least")
        self.assertIs(is_rule_bound(five, goals, told, value), True)


class JudgeTest(unittest.TestCase):
    FLOW = ((((0, 1, 2), 1), ((1, 2, 3), 1)), (((), (0, 1), 1), ((), (1, 2), 1), ((), (2, 3), 1)),
            (((0, 1), (2,), 1), ((1, 2), (2, 3), 1)), ())

    def test_is_rule_answer(self):
        other = ((((0, 1, 2), 1), ((1, 2, 3), 1)), (((), (0, 1), 1), ((), (1, 2), 1), ((), (2, 3), 1)),
                 (((0, 1), (1, 2), 1), ((1,), (2, 3), 1)), ())
        huge = scaled_flow(FOUR, self.FLOW, GREATEST)
        huge = tuple(tuple(thing[:-1] + (thing[-1] * HUGE,) for thing in things) for things in huge)
        right = [("paper", flow) for flow in (self.FLOW, other, huge)]
        for flow in (self.FLOW, other):
            self.assertTrue(is_paper_plainly(FOUR, BOTH, EDGES, flow))
            self.assertEqual((cost_plainly(EDGES, flow), weight(flow)), (6, 2))
        wrong = [("paper", ((),) + self.FLOW[1:]), ("paper", (((FOUR, 1),),) + self.FLOW[1:]), ("paper", None),
                 ("paper", ((), (), (), ())),
                 ("paper",), ("paper", (((BOTH[0], 1),),) + self.FLOW[1:]), ("paper", self.FLOW, 0),
                 ("rank", self.FLOW), (None, self.FLOW), ("paper", ((((0, 1), 1),), (((), (0, 1), 1),), (), ())),
                 ("paper", (((BOTH[0], 2), (BOTH[1], 1)),) + self.FLOW[1:]),
                 ("paper", ((((0, 1), 1), (BOTH[0], 1)), (((), (0, 1), 1), ((), (1, 2), 1), ((), (2, 3), 1)),
                            self.FLOW[2], ()))]
        check_judge(self, lambda value: is_rule_answer(FOUR, BOTH, EDGES, 3, 1, value), right, wrong)
        for value in right:
            self.assertIs(is_rule_answer(FOUR, BOTH, EDGES, 299, 100, value), False)
        h = {some: len(some) for some in all_lots(FOUR)}
        right = [("rank", 1, h), ("rank", HUGE, {some: HUGE * n for some, n in h.items()}),
                 ("rank", 1, {some: min(3, n) for some, n in h.items()}),
                 ("rank", 1, {some: n + (n > 0) * 0 for some, n in h.items()})]
        wrong = [("rank", 0, h), ("rank", 2, h), ("rank", h), ("rank", 1, {some: 2 * n for some, n in h.items()}),
                 ("paper", 1, h), ("rank", 1, {some: min(2, n) for some, n in h.items()}),
                 ("rank", 1, {**h, (0, 1, 2): 2}), ("rank", 1, None), ("rank", 1, step_rank(FOUR, (0,))),
                 ("rank", 1, h, h), ("rank", -1, h), ("rank", 1, {})]
        check_judge(self, lambda value: is_rule_answer(FOUR, BOTH, EDGES, 5, 2, value), right, wrong)
        self.assertIs(is_rule_answer(FOUR, BOTH, EDGES, 3, 1, ("rank", 1, h)), False)

    def test_is_rule_bound(self):
        h = {some: len(some) for some in all_lots(FOUR)}
        right = [("least", (3, 1), self.FLOW, 1, h), ("least", (3, 1), self.FLOW, HUGE,
                                                      {some: HUGE * n for some, n in h.items()}),
                 ("least", (3, 1), self.FLOW, 1, {some: min(3, n) for some, n in h.items()})]
        wrong = [("least", (6, 2), self.FLOW, 1, h), ("least", (3, 1), self.FLOW, 2, h),
                 ("least", (4, 1), self.FLOW, 1, h), ("least", (3, 1), self.FLOW, 1), ("endless", h),
                 ("least", (3, 1), ((),) + self.FLOW[1:], 1, h), ("least",),
                 ("least", (3, 1), self.FLOW, 1, {some: min(2, n) for some, n in h.items()}),
                 ("least", (2, 1), self.FLOW, 1, h), ("most", (3, 1), self.FLOW, 1, h),
                 ("least", (3, 0), self.FLOW, 1, h), ("least", (3, 1), None, 1, h),
                 ("least", (3, 1), ((), (), (), ()), 1, h), ("least", (0, 1), ((), (), (), ()), 1, h)]
        check_judge(self, lambda value: is_rule_bound(FOUR, BOTH, EDGES, value), right, wrong)
        step = step_rank(FOUR, (0, 3))
        right = [("endless", step), ("endless", {some: 7 * n for some, n in step.items()}),
                 ("endless", step_rank(FOUR, (0, 3)))]
        wrong = [("endless", step_rank(FOUR, (3,))), ("endless", dict.fromkeys(step, 0)), ("endless", step, 0),
                 ("endless", None), ("endless", step_rank(FOUR, FOUR)), ("least", step)]
        check_judge(self, lambda value: is_rule_bound(FOUR, BOTH, EDGES[2:3], value), right, wrong)


def tables_plainly(flow, follower):
    """The tables that a log leads to, from its ends."""
    found = {goal: set() for goal, _ in flow[0]}
    for goal, rows in follower.ends:
        found[goal].update(rows)
    return {goal: Table(goal, tuple(sorted(rows))[:1000]) for goal, rows in found.items()}


def holds_plainly(question, rows, tables):
    return all(any(part_of(question.lot, row, some) in table.rows for some, table in tables.items()) for row in rows)


class RunTest(unittest.TestCase):
    def cases(self):
        """Questions with several goals, one goal alone, and goals that no branch comes to."""
        yield from drawn_runs(136, 30)
        yield from drawn_flow_runs(137, 40)
        chance = random.Random(138)
        for at in range(16):
            question = Question(FOUR, tuple(skewed_table(chance, some, (3, 12, 40)[at % 3], 6) for _, some, _ in EDGES))
            told = exact_told(question, tuple(one[:2] for one in EDGES))
            for goals in (BOTH, ((0, 1, 2), (0, 2, 3), (1, 2, 3)), ((0, 1, 2),), ((0,), FOUR)):
                yield question, told, rule_bound(FOUR, goals, told)[2]

    def test_runs(self):
        """[13.3]: each branch ends at a goal, no table is above the bound, and the tables hold the answer."""
        seen = {"several": 0, "none": 0, "ends": 0}
        for question, told, flow in self.cases():
            log, tables = rule_run(question, told, flow)
            follower = followed_plainly(question, told, flow, log)
            self.assertEqual(list(tables), [goal for goal, _ in flow[0]])
            rows = tables_plainly(flow, follower)
            self.assertTrue(all(tables[goal].rows[:1000] == rows[goal].rows for goal in tables))
            self.assertTrue(all(many ** follower.D <= 2 ** follower.p for many in follower.sizes))
            self.assertIs(is_rule_run(question, told, flow, (log, tables)), True)
            self.assertTrue(holds_plainly(question, answer(question).rows, tables))
            self.assertIs(does_hold(question, tables), True)
            seen["several"] += len(tables) > 1
            seen["none"] += len(tables) > 1 and min(len(table) for table in tables.values()) == 0
            seen["ends"] += len({goal for goal, _ in follower.ends}) > 1
        self.assertTrue(seen["several"] > 20 and seen["none"] > 3 and seen["ends"] > 3, seen)

    def test_logs_of_the_tests_own(self):
        chance = random.Random(139)
        seen = 0
        for question, told, flow in self.cases():
            if sum(question.sizes) > 60:
                continue
            log = Leader(chance, question, told, flow).log()
            follower = followed_plainly(question, told, flow, log)
            tables = tables_plainly(flow, follower)
            if max(len(table) for table in tables.values()) < 1000:
                seen += log != rule_run(question, told, flow)[0]
                self.assertIs(is_rule_run(question, told, flow, (log, tables)), True)
                self.assertTrue(holds_plainly(question, answer(question).rows, tables))
        self.assertGreater(seen, 10)

    def test_is_rule_run(self):
        rows = ((0, 0), (0, 1), (1, 0))
        question = Question(FOUR, tuple(Table(some, rows) for _, some, _ in EDGES))
        flow = JudgeTest.FLOW
        told = exact_told(question, tuple(one[:2] for one in EDGES))
        right = [rule_run(question, told, flow)]
        for seed in range(12):
            log = Leader(random.Random(seed), question, told, flow).log()
            follower = followed_plainly(question, told, flow, log)
            right.append((log, dict(reversed(tables_plainly(flow, follower).items()))))
        self.assertGreater(len({shown(value) for value in right}), 3)
        log, tables = right[0]
        more = {**tables, BOTH[0]: Table(BOTH[0], tables[BOTH[0]].rows + ((9, 9, 9),))}
        wrong = [(log, more), (log, {BOTH[0]: tables[BOTH[0]]}), (log, {**tables, FOUR: Table(FOUR, ())}), (log,),
                 (log, tables, 0), (log, {goal: table.rows for goal, table in tables.items()}), (log, None),
                 (None, tables), (log[:-1], tables), (log, tuple(tables.items())), (log, {}),
                 (log, {goal: Table(FOUR, ()) for goal in tables}), (tables, log), ((("goal", BOTH[0]),), tables),
                 (log, {None: tables[BOTH[0]]}), (log, {**tables, "0": tables[BOTH[0]]}),
                 (log, {**tables, (1, 0): tables[BOTH[0]]})]
        check_judge(self, lambda value: is_rule_run(question, told, flow, value), right, wrong)

    def test_a_goal_without_a_row(self):
        """A flow with two goals whose run ends at the first one."""
        question = Question((0, 1), (SOME_TABLE, Table((0,), ((0,), (1,), (2,)))))
        told = (((), (0,), 2), ((), (0, 1), 2))
        flow = ((((0,), 1), ((0, 1), 1)), (((), (0,), 1), ((), (0, 1), 1)), (), ())
        none = {(0,): Table((0,), ((0,), (1,))), (0, 1): Table((0, 1), ())}
        self.assertIs(is_rule_run(question, told, flow, ((("goal", (0,)),), none)), True)
        self.assertIs(does_hold(question, none), True)
        other = {(0,): Table((0,), ()), (0, 1): SOME_TABLE}
        self.assertIs(is_rule_run(question, told, flow, ((("goal", (0, 1)),), other)), True)
        self.assertIs(is_rule_run(question, told, flow, ((("goal", (0, 1)),), none)), False)
        told_run = rule_run(question, told, flow)
        self.assertIn(shown(told_run), (shown(((("goal", (0,)),), none)), shown(((("goal", (0, 1)),), other))))

    def test_the_most(self):
        one = Question((0,), (Table((0,), ((1,),)),))
        for n in (200, 201):
            flow = ((((0,), n),), (((), (0,), n),), (), ())
            if n == 200:
                self.assertEqual(rule_run(one, (((), (0,), 0),), flow)[1], {(0,): Table((0,), ((1,),))})
            else:
                refused(self, TooMany, rule_run, (one, (((), (0,), 0),), flow), 200)
        chance = random.Random(1310)
        question = Question(FOUR, tuple(skewed_table(chance, some, 60, 9) for _, some, _ in EDGES))
        told = exact_told(question, tuple(one[:2] for one in EDGES))
        flow = rule_bound(FOUR, BOTH, told)[2]
        with patch.object(logs, "MOST_ENDS", 1):
            refused(self, TooMany, rule_run, (question, told, flow), 1)
        wide, tall = Table((0,), tuple((n,) for n in range(1000))), Table((1,), tuple((n,) for n in range(101)))
        both = ((((0, 1), 1),), (((), (0,), 1), ((), (1,), 1)), (((0,), (1,), 1),), ())
        degrees = (((), (0,), 10), ((), (1,), 7))
        question = Question((0, 1), (wide, tall))
        refused(self, TooMany, rule_run, (question, degrees, both), 100000)
        log = (("cut", (0,), (1,)), ("join", (1,), (0, 1)), ("goal", (0, 1)))
        refused(self, TooMany, is_rule_run, (question, degrees, both, (log, {(0, 1): SOME_TABLE})), 100000)
        for call, more in ((does_hold, {(0,): wide}), (share, {(0,): wide}), (are_even, ((0,),))):
            refused(self, TooMany, call, (question, more), 100000)
        just = Question((0, 1), (wide, Table((1,), tall.rows[:100])))
        self.assertEqual((does_hold(just, {(0,): wide}), share(just, {(0,): wide}), are_even(just, ((0,),))),
                         (True, (1, 1), True))


class HoldTest(unittest.TestCase):
    def test_does_hold_by_all_rows(self):
        """[13.1]"""
        chance = random.Random(1311)
        seen = {True: 0, False: 0}
        for letters in ((0, 1), ABC, (1, 2, 3, 5)):
            for _ in range(15):
                question = random_question(chance, letters, (0, 1, 2), 3)
                rows = plain_answer(question, (0, 1, 2))
                for _ in range(6):
                    lots = chance.sample(all_lots(letters), chance.randint(1, 3))
                    tables = {}
                    for some in lots:
                        parts = sorted({part_of(letters, row, some) for row in rows})
                        tables[some] = Table(some, tuple(part for part in parts if chance.random() < 0.8))
                    held = holds_plainly(question, rows, tables)
                    seen[held] += 1
                    self.assertIs(does_hold(question, tables), held)
                    top, bottom = share(question, tables)
                    plain = sum([Fraction(len(table), len({part_of(letters, row, some) for row in rows}))
                                 for some, table in tables.items() if rows], Fraction(0))
                    self.assertEqual((top, bottom), (plain.numerator, plain.denominator))
        self.assertGreater(min(seen.values()), 40)

    def test_edges_of_holding(self):
        none = Question((0, 1), (Table((0, 1), ()),))
        for tables in ({(): Table((), ())}, {(0,): Table((0,), ((5,),))}, {(0, 1): Table((0, 1), ())}):
            self.assertIs(does_hold(none, tables), True)
            self.assertEqual(share(none, tables), (0, 1))
        self.assertIs(does_hold(SOME_QUESTION, {(): Table((), ((),))}), True)
        self.assertIs(does_hold(SOME_QUESTION, {(): Table((), ())}), False)
        self.assertEqual(share(SOME_QUESTION, {(): Table((), ((),)), (0,): Table((0,), ((0,), (1,), (7,)))}), (5, 2))
        self.assertIs(does_hold(SOME_QUESTION, {(0,): Table((0,), ((0,),)), (1,): Table((1,), ((0,),))}), False)
        self.assertIs(does_hold(SOME_QUESTION, {(0,): Table((0,), ((1,),)), (1,): Table((1,), ((1,),))}), True)
        self.assertIs(does_hold(Question((), ()), {(): Table((), ((),))}), True)

    def test_even_answers(self):
        """[13.4]"""
        chance = random.Random(1312)
        seen = {True: 0, False: 0}
        for letters in ((0, 1), ABC):
            for at in range(60):
                question = random_question(chance, letters, (0, 1), 2 + at % 2)
                rows = plain_answer(question, (0, 1))
                goals = tuple(sorted(chance.sample(all_lots(letters)[1:], chance.randint(1, 2))))
                even = True
                for goal in goals:
                    parts = [part_of(letters, row, goal) for row in rows]
                    even = even and len({parts.count(part) for part in parts}) <= 1
                seen[even] += 1
                self.assertIs(are_even(question, goals), even)
        self.assertGreater(min(seen.values()), 15)
        self.assertIs(are_even(Question((0,), (Table((0,), ()),)), ((0,),)), True)

    def test_not_with_less(self):
        """[13.4]: tables that hold an even answer have at least the whole of it in shares."""
        rows = tuple((n, m) for n in range(2) for m in range(2))
        question = Question(ABC, tuple(Table(some, rows) for some in combinations(ABC, 2)))
        self.assertIs(are_even(question, ((0, 1), (1, 2))), True)
        seen = 0
        for one in range(16):
            for other in range(16):
                tables = {(0, 1): Table((0, 1), tuple(row for at, row in enumerate(rows) if one >> at & 1)),
                          (1, 2): Table((1, 2), tuple(row for at, row in enumerate(rows) if other >> at & 1))}
                if does_hold(question, tables):
                    seen += 1
                    self.assertGreaterEqual(Fraction(*share(question, tables)), 1)
        self.assertGreater(seen, 10)


class WrongArgumentsTest(unittest.TestCase):
    LOT = (InvalidLot, WRONG_LOTS + ((), (0, 1, 2, 3, 4, 5)))
    GOALS = (InvalidOperation, ODD + OBJECTS + BOOLS + LONG_NUMBERS + (
        0, (), (0,), (0, 1), ((),), ((), (0,)), ((1,), (0,)), ((0,), (0,)), ((2,),), ((0,), (5,)), [(0,)], ([0],),
        ((1, 0),), ((True,),), ((0,), None), {(0,): 1}, ((0,),) * 13,
    ))
    TOLD = (InvalidTold, wrong_told((0, 1)))
    QUESTION = (InvalidQuestion, WRONG_QUESTIONS)
    RIGHT = (((), (0, 1), 4),)

    def test_bounds(self):
        p, D = (InvalidNumber, wrong_numbers(0)), (InvalidNumber, wrong_numbers(1))
        start = ((self.LOT,), (self.GOALS,), (self.TOLD,))
        right = ((0, 1), ((0,), (0, 1)), self.RIGHT)
        check_wrongs(self, rule_bound, right, start)
        check_wrongs(self, rule_answer, right + (4, 1), start + ((p,), (D,)))
        check_wrongs(self, is_rule_bound, right + (None,), start + ((),))
        check_wrongs(self, is_rule_answer, right + (4, 1, ("paper", ())), start + ((p,), (D,), ()))
        goals = tuple(all_lots((0, 1, 2, 3)))[1:14]
        refused(self, InvalidOperation, rule_bound, (FOUR, goals, EDGES))
        self.assertEqual(rule_bound(FOUR, goals[:12], EDGES)[0], "least")

    def test_runs(self):
        flow = ((InvalidFlow, wrong_flows((0, 1))), (InvalidOperation, (
            ((), (), (), ()), ((), (((), (0, 1), 1),), (), ()), ((((0,), 1),), (((), (0,), 1),), (), ()),
            ((((0, 1), 1),), (((), (0,), 1), ((0,), (0, 1), 1)), (), ()))))
        right = (SOME_QUESTION, self.RIGHT, ((((0, 1), 1),), (((), (0, 1), 2),), (), ()))
        start = ((self.QUESTION,), (self.TOLD,), flow)
        check_wrongs(self, rule_run, right, start)
        for value in (rule_run(*right), None):
            check_wrongs(self, is_rule_run, right + (value,), start + ((),))
        told = self.RIGHT + (((0,), (0, 1), 0),)
        for call, more in ((rule_run, ()), (is_rule_run, (None,))):
            refused(self, Refused, call, (SOME_QUESTION, told, right[2]) + more, ("degree", 1))
            refused(self, Refused, call, (SOME_QUESTION, told, scaled_flow((0, 1), right[2], 101)) + more,
                    ("degree", 1))

    def test_tables_and_goals(self):
        tables = (InvalidOperation, ODD + OBJECTS + BOOLS + LONG_NUMBERS + (
            0, (), ((0, 1), SOME_TABLE), {(0,): SOME_TABLE}, {(0, 1): SOME_TABLE.rows}, {(2,): Table((2,), ())},
            [SOME_TABLE], {(0, 1): None}, {(0, 1): SOME_TABLE, None: SOME_TABLE}, {"0": SOME_TABLE},
            {(1, 0): SOME_TABLE}, {(True,): Table((1,), ())}, {0: SOME_TABLE},
            {(0, 1): SOME_TABLE, (0,): Table((1,), ())}, (((0, 1), SOME_TABLE),),
        ))
        for call in (does_hold, share):
            check_wrongs(self, call, (SOME_QUESTION, {(0, 1): SOME_TABLE}), ((self.QUESTION,), (tables,)))
        check_wrongs(self, are_even, (SOME_QUESTION, ((0,), (0, 1))), ((self.QUESTION,), (self.GOALS,)))


class NotTrueTest(unittest.TestCase):
    """[13.6]"""

    def test_tables_that_hold_the_answer_need_not_have_all_of_it(self):
        tables = {(0,): Table((0,), ((1,),)), (1,): Table((1,), ((1,),))}
        self.assertIs(does_hold(SOME_QUESTION, tables), True)
        for some, table in tables.items():
            self.assertLess(len(table), len({part_of((0, 1), row, some) for row in SOME_TABLE.rows}))

    def test_two_goals_can_have_a_lesser_bound_than_each(self):
        self.assertEqual([rule_bound(FOUR, goals, EDGES)[1] for goals in (BOTH, BOTH[:1], BOTH[1:])],
                         [(3, 1), (4, 1), (4, 1)])

    def test_a_run_need_not_have_rows_at_each_goal(self):
        question = Question((0, 1), (SOME_TABLE, Table((0,), ((0,), (1,), (2,)))))
        flow = ((((0,), 1), ((0, 1), 1)), (((), (0,), 1), ((), (0, 1), 1)), (), ())
        tables = rule_run(question, (((), (0,), 2), ((), (0, 1), 2)), flow)[1]
        self.assertEqual(sorted(tables), [(0,), (0, 1)])
        self.assertEqual(sorted(len(table) > 0 for table in tables.values()), [False, True])
        self.assertIs(does_hold(question, tables), True)


if __name__ == "__main__":
    unittest.main()
