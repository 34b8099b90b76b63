"""Papers are plans [0.13], [12.1] to [12.6]: crestjoin.flow.plans."""

import random
import unittest
from itertools import combinations
from unittest.mock import patch

from crestjoin.errors import InvalidFlow, InvalidOperation, InvalidQuestion, InvalidTold, Refused, TooMany
from crestjoin.flow import logs
from crestjoin.flow.flows import is_flow, is_without, scaled_flow, weight_of
from crestjoin.flow.least import lesser_flow
from crestjoin.flow.plans import is_log, log_answer, log_counts, log_sizes, plan_bound, run
from crestjoin.rank.degrees import exact_told, least_bound
from crestjoin.table.joins import Question, answer
from crestjoin.table.tables import Table
from tests.runs import Leader, drawn_flow_runs, drawn_runs, followed_plainly, skewed_table
from tests.support import (
    BOOLS, GREATEST, HUGE, LONG_NUMBERS, OBJECTS, ODD, SOME_TABLE, WRONG_QUESTIONS, check_judge, check_wrongs,
    flows_plainly, plain_answer, refused, shown, wrong_flows, wrong_told,
)

ABC = (0, 1, 2)
WEB = (((ABC, 2),), (((), (0, 1), 1), ((), (0, 2), 1), ((), (1, 2), 1)), (((0,), (1, 2), 1), ((0, 1), (0, 2), 1)), ())
TWO = Table((0, 1), ((0, 0), (0, 1), (1, 0)))
ASK = Question(ABC, (TWO, Table((0, 2), TWO.rows), Table((1, 2), TWO.rows)))
TOLD = (((), (0, 1), 2), ((), (0, 2), 2), ((), (1, 2), 2))
END = (("join", (0, 1), ABC), ("goal", ABC))
LOG = (("cut", (1, 2), (0,)), ("cut", (0, 2), (0, 1), (END, END)))
RING = ((0, 1), (0, 4), (1, 2), (2, 3), (3, 4))
# A flow of the ring by crossings of lots alone that have each one letter more than what they share.
CROSSED = ((((0, 1, 2, 3, 4), 2),), tuple(((), some, 1) for some in RING), (
    ((0, 1), (1, 4), 1), ((0, 1, 2, 4), (0, 1, 3, 4), 1), ((0, 1, 2, 4), (0, 2, 3, 4), 1), ((0, 1, 4), (0, 2, 4), 1),
    ((0, 1, 4), (0, 3, 4), 1), ((0, 1, 4), (1, 2, 4), 1), ((0, 2, 4), (2, 3, 4), 1), ((0, 4), (1, 4), 1),
    ((0, 4), (2, 4), 1), ((0, 4), (3, 4), 1), ((1,), (4,), 1), ((1, 2), (2, 4), 1), ((2,), (4,), 1),
    ((2, 3), (3, 4), 1), ((3,), (4,), 1)), ())
RUNS = list(drawn_runs(121, 60)) + [case for case in drawn_flow_runs(122, 90) if len(case[2][0]) == 1]


def exchanged(value, old, new):
    """All copies of nested tuples with one inner value exchanged for another one."""
    if value == old:
        return [new]
    if not isinstance(value, tuple):
        return []
    return [value[:at] + (other,) + value[at + 1:] for at, inner in enumerate(value)
            for other in exchanged(inner, old, new)]


def near_logs(chance, log):
    """Logs near a log: an entry left out, put in twice, or changed, at any depth."""
    for at, entry in enumerate(log):
        yield log[:at] + log[at + 1:]
        yield log[:at] + (entry,) + log[at:]
        if at + 1 < len(log):
            yield log[:at] + (log[at + 1], entry) + log[at + 2:]
        for kind in ("spare", "drop", "join", "cut", "goal"):
            yield log[:at] + ((kind,) + entry[1:],) + log[at + 1:]
        if len(entry) == 4:
            inner = entry[3]
            yield log[:at] + (entry[:3] + (inner[:-1],),) + log[at + 1:]
            yield log[:at] + (entry[:3] + (inner + inner[:1],),) + log[at + 1:]
            yield log[:at] + (entry[:3],) + log[at + 1:]
            if inner:
                place = chance.randrange(len(inner))
                for near in list(near_logs(chance, inner[place]))[:12]:
                    yield log[:at] + (entry[:3] + (inner[:place] + (near,) + inner[place + 1:],),) + log[at + 1:]


class MainTest(unittest.TestCase):
    def check(self, question, told, flow, log):
        """[12.3]: what the log comes to, and that no table is above the bound."""
        follower = followed_plainly(question, told, flow, log)
        self.assertIsNotNone(follower)
        p, D = plan_bound(question, told, flow)
        self.assertEqual((p, D), (follower.p, follower.D))
        sizes = log_sizes(question, told, flow, log)
        self.assertEqual(sizes, tuple(follower.sizes))
        self.assertTrue(all(rows ** D <= 2 ** p for rows in sizes))
        self.assertEqual(log_counts(question, told, flow, log), (len(follower.ends), follower.given_up))
        found = log_answer(question, told, flow, log)
        self.assertEqual(found, answer(question))
        rows = {row for _, rows in follower.ends for row in rows}
        kept = [row for row in rows if all(row_part(question.lot, row, part.lot) in part for part in question.parts)]
        self.assertEqual(found.rows, tuple(sorted(kept)))
        self.assertLessEqual(len(found) ** D, 2 ** p)
        return follower

    def test_runs_that_are_led(self):
        """[0.13], [12.3], [12.4], [12.5]"""
        seen = {"rows": 0, "ends": 0, "given": 0}
        for question, told, flow in RUNS:
            before = shown((question, told, flow))
            log = run(question, told, flow)
            self.assertEqual(shown((question, told, flow)), before)
            self.assertIs(is_log(question, told, flow, log), True)
            follower = self.check(question, told, flow, log)
            seen["rows"] += len(answer(question)) > 0
            seen["ends"] += len(follower.ends) > 1
            seen["given"] += follower.given_up > 0
        self.assertTrue(seen["rows"] > 30 and seen["ends"] > 5)

    def test_answers_by_trying_all_rows(self):
        for question, told, flow in RUNS:
            numbers = sorted({n for part in question.parts for row in part.rows for n in row})
            if len(numbers) ** len(question.lot) <= 1300:
                log = run(question, told, flow)
                self.assertEqual(log_answer(question, told, flow, log).rows, plain_answer(question, numbers))

    def test_logs_of_the_tests_own(self):
        """[12.3]: EVERY log comes to the answer; these are led by chance."""
        chance = random.Random(123)
        seen = {"given": 0, "cut": 0, "other": 0}
        for question, told, flow in RUNS:
            if sum(question.sizes) > 70:
                continue
            log = Leader(chance, question, told, flow).log()
            self.assertIs(is_log(question, told, flow, log), True)
            follower = self.check(question, told, flow, log)
            seen["given"] += follower.given_up > 0
            seen["cut"] += len(follower.ends) > 1
            seen["other"] += log != run(question, told, flow)
        self.assertTrue(min(seen.values()) > 3, seen)

    def test_terms_that_become_great(self):
        """[12.4]: what is great is given up, and the run goes on with what is left."""
        chance = random.Random(124)
        lot = (0, 1, 2, 3)
        web = tuple(combinations(lot, 3))
        question = Question(lot, tuple(skewed_table(chance, some, 40, 9) for some in web))
        told = exact_told(question, tuple(((), some) for some in web))
        flow = least_bound(lot, told)[2]
        seen = 0
        for _ in range(12):
            log = Leader(chance, question, told, flow).log()
            seen += self.check(question, told, flow, log).given_up
        self.assertGreater(seen, 5)
        # The heavy piece of this ring joined with the wide part would be above the bound of 8.
        star = Table((0, 1), tuple((0, n) for n in range(4)))
        heavy = Question(ABC, (star, Table((0, 2), star.rows), Table((1, 2), ((0, 0), (1, 1), (2, 2), (3, 3)))))
        log = (("cut", (1, 2), (0,)), ("cut", (0, 2), (0, 1), ((
            ("join", (0, 1), ABC), ("give up", ABC, (((ABC, 1),), (((), (0,), 1), ((0,), ABC, 1)), (), ())),
            ("join", (0,), ABC), ("goal", ABC)),)))
        self.check(heavy, TOLD, WEB, log)
        self.assertEqual(log_counts(heavy, TOLD, WEB, log), (1, 1))
        self.assertEqual(log_sizes(heavy, TOLD, WEB, log), (4, 1, 4))
        for other in exchanged(log, ("give up", ABC, log[1][3][0][1][2]), ("spare", ABC)):
            self.check(heavy, TOLD, WEB, other)
            self.assertEqual(log_counts(heavy, TOLD, WEB, other), (1, 0))

    def test_runs_that_give_up(self):
        """[12.4]: with pieces of three letters a join can be above the bound, and is given up."""
        chance = random.Random(1210)
        lot = (0, 1, 2, 3)
        web = tuple(combinations(lot, 3))
        seen = 0
        for _ in range(12):
            question = Question(lot, tuple(skewed_table(chance, some, 200, 20) for some in web))
            told = exact_told(question, tuple(((), some) for some in web))
            flow = least_bound(lot, told)[2]
            log = run(question, told, flow)
            self.assertIs(is_log(question, told, flow, log), True)
            seen += self.check(question, told, flow, log).given_up > 0
        self.assertGreater(seen, 5)

    def test_drops_to_no_letters_make_no_table(self):
        self.check(ASK, TOLD, WEB, (("drop", (1, 2), ()),) + LOG[1:])
        self.assertEqual(log_sizes(ASK, TOLD, WEB, (("drop", (1, 2), ()),) + LOG[1:]), (1, 1, 2, 1, 1, 4))

    def test_the_guards_that_are_used(self):
        """[12.1]: the first part that keeps the degree, with the least k; the last guard first [12.2]."""
        few, many = Table((0, 1), ((0, 0), (1, 1))), Table((0, 1), tuple((n % 3, n) for n in range(6)))
        flow = ((((0, 1), 1),), (((), (0, 1), 1),), (), ())
        for told, parts, rows in (((((), (0, 1), 3),), (many, few), 6), ((((), (0, 1), 3),), (few, many), 2),
                                  ((((), (0, 1), 1),), (many, few), 2),
                                  ((((), (0, 1), 3), ((), (0, 1), 1)), (many, few), 2)):
            question = Question((0, 1), parts)
            follower = self.check(question, told, flow, (("goal", (0, 1)),))
            self.assertEqual(len(follower.ends[0][1]), rows)
        two = Question((0, 1), (Table((0,), ((0,), (1,))), Table((0, 1), ((0, 5), (1, 6), (7, 7)))))
        told = (((), (0,), 1), ((), (0, 1), 2), ((0,), (0, 1), 1))
        flow = ((((0, 1), 2),), (((), (0,), 1), ((), (0, 1), 1), ((0,), (0, 1), 1)), (), ())
        log = (("join", (0,), (0, 1)), ("goal", (0, 1)))
        follower = self.check(two, told, flow, log)
        self.assertEqual(len(follower.ends[0][1]), 2)
        self.assertEqual(len(self.check(two, told, flow, (("goal", (0, 1)),)).ends[0][1]), 3)

    def test_guards_that_are_left_out(self):
        """[12.2]: of more guards than terms those that came first are left out."""
        question = Question((0, 1), (Table((0, 1), ((0, 0), (0, 1), (1, 1))), Table((0,), ((0,), (1,)))))
        told = (((), (0,), 2), ((0,), (0, 1), 1), ((), (0, 1), 2))
        flow = ((((0, 1), 5),), (((), (0,), 4), ((), (0, 1), 1), ((0,), (0, 1), 4)), (), ())
        self.assertEqual(plan_bound(question, told, flow), (14, 5))
        left = ((((0, 1), 3),), (((), (0,), 2), ((), (0, 1), 1), ((0,), (0, 1), 2)), (), ())
        join = ("join", (0,), (0, 1))
        log = (join, ("give up", (0, 1), left), ("goal", (0, 1)))
        follower = self.check(question, told, flow, log)
        self.assertEqual(follower.given_up, 1)
        more = ((((0, 1), 4),), (((), (0,), 3), ((), (0, 1), 1), ((0,), (0, 1), 3)), (), ())
        self.check(question, told, flow, (join, ("give up", (0, 1), more), ("goal", (0, 1))))
        for bad in (((((0, 1), 4),), (((), (0,), 3), ((), (0, 1), 2), ((0,), (0, 1), 3)), (), ()),
                    ((((0, 1), 5),), (((), (0,), 4), ((), (0, 1), 1), ((0,), (0, 1), 4)), (), ()),
                    ((), left[1], (), ())):
            self.assertIs(is_log(question, told, flow, (join, ("give up", (0, 1), bad), ("goal", (0, 1)))), False)
        # Of the first guard and two joined ones just the first joined one is left, if two are to go.
        two = ((((0, 1), 2),), (((), (0,), 1), ((), (0, 1), 1), ((0,), (0, 1), 1)), (), ())
        both = ((((0, 1), 3),), (((), (0,), 1), ((), (0, 1), 2), ((0,), (0, 1), 1)), (), ())
        last = ((((0, 1), 1),), (((), (0, 1), 1),), (), ())
        for some, right in ((two, False), (both, True)):
            for end in (("give up", (0, 1), last), ("spare", (0, 1))):
                log = (join, join, ("give up", (0, 1), some), end, ("goal", (0, 1)))
                self.assertIs(is_log(question, told, flow, log), right)
                self.assertEqual(followed_plainly(question, told, flow, log) is not None, right)
        # The goal's guard is the first one again, where the joined one was given up: none of the last ones is left.
        twice = (join, ("give up", (0, 1), more), join, ("give up", (0, 1), left), ("goal", (0, 1)))
        self.assertEqual(self.check(question, told, flow, twice).given_up, 2)

    def test_edges(self):
        none = Question(ABC, ASK.parts[:2] + (Table((1, 2), ()),))
        for question in (none, Question(ABC, ASK.parts + ASK.parts), Question(ABC, ASK.parts + (Table((), ((),)),)),
                         Question(ABC, ASK.parts + (Table((), ()),))):
            for flow in (WEB, scaled_flow(ABC, WEB, 3), scaled_flow(ABC, WEB, 40)):
                self.check(question, TOLD, flow, run(question, TOLD, flow))
        self.check(none, TOLD, WEB, (("cut", (1, 2), (0,)), ("cut", (0, 2), (0, 1), (END, END))))
        self.check(none, TOLD, WEB, (("cut", (1, 2), (0, 1), ()),))
        one = Question((3,), (Table((3,), ((5,),)),))
        lone = ((((3,), 1),), (((), (3,), 1),), (), ())
        self.assertEqual(run(one, (((), (3,), 0),), lone), (("goal", (3,)),))
        self.assertEqual(plan_bound(one, (((), (3,), 0),), lone), (0, 1))
        self.check(one, (((), (3,), 0),), lone, (("goal", (3,)),))
        great = scaled_flow((3,), lone, GREATEST)
        self.assertEqual(plan_bound(one, (((), (3,), 20),), great), (20 * GREATEST, GREATEST))
        self.check_counts_alone(one, (((), (3,), 20),), great)

    def check_counts_alone(self, question, told, flow):
        log = (("spare", (3,)),) * 5 + (("goal", (3,)),)
        self.assertIs(is_log(question, told, flow, log), True)
        self.assertEqual(log_counts(question, told, flow, log), (1, 0))
        refused(self, TooMany, run, (question, told, flow), 200)

    def test_bounds_above_twenty(self):
        """A cut's k can be above 20 where it is a sum of two."""
        chance = random.Random(125)
        lot = (0, 1, 2, 3)
        parts = (Table((0,), ((0,), (1,))), skewed_table(chance, (1, 2), 8, 4), skewed_table(chance, (0, 3), 8, 4))
        question = Question(lot, parts)
        told = (((), (0,), 20), ((), (1, 2), 20), ((), (0, 3), 20))
        flow = (((lot, 1),), (((), (0,), 1), ((), (0, 3), 1), ((), (1, 2), 1)),
                (((0,), (1, 2), 1), ((0, 1, 2), (0, 3), 1)), ())
        # Both rows on 0 have as many rows above them: one piece.
        log = (("cut", (1, 2), (0,)), ("join", (0,), ABC),
               ("cut", ABC, (0, 3), ((("join", (0, 3), lot), ("goal", lot)),)))
        self.check(question, told, flow, log)
        self.check(question, told, flow, run(question, told, flow))


def row_part(lot, row, some):
    return tuple(row[lot.index(letter)] for letter in some)


class JudgeTest(unittest.TestCase):
    def test_near_logs(self):
        """[12.2]: entries left out, changed and exchanged, against the test's own following."""
        chance = random.Random(126)
        seen = {True: 0, False: 0}
        cases = [(ASK, TOLD, WEB, LOG)]
        for question, told, flow in RUNS:
            if sum(question.sizes) <= 40:
                cases.append((question, told, flow, Leader(chance, question, told, flow).log()))
        for question, told, flow, log in cases:
            for near in list(near_logs(chance, log))[:60]:
                right = followed_plainly(question, told, flow, near) is not None
                seen[right] += 1
                self.assertIs(is_log(question, told, flow, near), right, near)
        self.assertGreater(min(seen.values()), 20)

    def test_is_log(self):
        by_two = ("cut", (1, 2), (0, 2), ((("join", (0, 2), ABC), ("goal", ABC)),) * 2)
        right = [LOG, LOG[1:], (("drop", (1, 2), ()),) + LOG[1:], (("cut", (0, 1), (2,)), by_two),
                 (("drop", (0, 1), (0,)), ("drop", (0,), ()), by_two), (("spare", (0, 1)), by_two), run(ASK, TOLD, WEB)]
        for value in right:
            self.assertIsNotNone(followed_plainly(ASK, TOLD, WEB, value))
        short = (("drop", (1, 2), ()),) + LOG[1:]
        wrong = [(("cut", (1, 2), (0,), (LOG[1:],)),), (("drop", (1, 2), (), (LOG[1:],)),), (short,),
                 (("spare", (1, 2), (), (LOG[1:],)),), (("drop", (1, 2), (1,), (short, short)),),
                 (("join", (0, 1), ABC, (short,)),),
                 (("cut", (1, 2), (0,)), ("drop", (0, 1), (0,)), ("join", (0,), ABC), ("goal", ABC)), LOG[:1],
                 LOG[::-1], LOG + (("goal", ABC),), (("goal", ABC),), (("goal", (0, 1)),), ((),), ((), ()),
                 (("cut", (1, 2), (0,), ()),) + LOG[1:], (("cut", (1, 2), (0, 1)),) + LOG[1:], (("goal", ABC, ()),),
                 LOG[:1] + (LOG[1][:3],), LOG[:1] + (LOG[1][:3] + ((END,),),),
                 LOG[:1] + (LOG[1][:3] + ((END, END, END),),), LOG[:1] + (LOG[1][:3] + (None,),),
                 LOG[:1] + (LOG[1][:3] + ((END, None),),), (("spare", (0, 1)),), (("give up", (0, 1), WEB),) + LOG,
                 (("give up", (0, 1)),) + LOG, (("give up", None, WEB),) + LOG, (("cut", (1, 2), (5,)),) + LOG[1:],
                 (("drop", (1, 2), (0,)),) + LOG[1:], (("cut", (1, 2), (0, 3)),) + LOG[1:],
                 (("take", (1, 2), (0,)),) + LOG[1:], ((None, (1, 2), (0,)),) + LOG[1:],
                 (("cut", None, (0,)),) + LOG[1:], (("cut", (1, 2), (0,), None),) + LOG[1:], ("goal", ABC),
                 LOG[:1] + (LOG[1][:3] + ((END, END[:1]),),), LOG[:1] + (LOG[1][:3] + ((END, END + END),),),
                 (None,) + LOG, (SOME_TABLE,), ((SOME_TABLE, ABC),)]
        check_judge(self, lambda value: is_log(ASK, TOLD, WEB, value), right, wrong)

    def test_terms_that_are_not_great_are_not_given_up(self):
        less = (((ABC, 1),), (((), (0, 2), 1), ((), (1, 2), 1)), (((0, 2), (1, 2), 1),), ())
        end = (("cut", (0, 2), (1, 2), ((("join", (1, 2), ABC), ("goal", ABC)),) * 2),)
        self.assertIs(is_log(ASK, TOLD, WEB, (("spare", (0, 1)),) + end), True)
        self.assertIs(is_log(ASK, TOLD, WEB, (("give up", (0, 1), less),) + end), False)

    def test_great_terms_are_not_used(self):
        """[12.2]: any entry but spare and give up needs that its ((), Z) is not great."""
        lot = (0, 1, 2, 3)
        star = Table((0, 1), tuple((0, n) for n in range(4)))
        whole = Table(lot, tuple((0, n, m, n) for n in range(4) for m in range(4)))
        question = Question(lot, (star, Table((0, 2), star.rows), Table((1, 2), star.rows), whole))
        told = TOLD + ((ABC, lot, 0),)
        flow = (((lot, 2),), WEB[1] + ((ABC, lot, 2),), WEB[2], ())
        flow = (flow[0], tuple(sorted(flow[1])), flow[2], ())
        self.assertEqual(plan_bound(question, told, flow), (6, 2))

        def log(*inner):
            return (("cut", (1, 2), (0,)), ("cut", (0, 2), (0, 1), ((("join", (0, 1), ABC),) + inner,)))

        end = (("join", (0,), ABC), ("join", ABC, lot), ("goal", lot))
        right = [log(("spare", ABC), *end)]
        wrong = [log(("drop", ABC, ()), *end), log(("drop", ABC, (0, 1)), *end), log(("join", ABC, lot), *end),
                 log(("cut", ABC, (3,)), *end), log(("cut", ABC, (0, 3), ())), log(("cut", ABC, (0, 3), (end,))),
                 log(("goal", ABC)), log(("drop", ABC, (0, 1)), ("spare", (0, 1)), *end)]
        for value in right:
            self.assertIsNotNone(followed_plainly(question, told, flow, value))
        check_judge(self, lambda value: is_log(question, told, flow, value), right, wrong)

    def test_flows_that_are_given_up_to(self):
        """[12.2]: their terms are held to those that are left; their goals, crossings and drops can be any."""
        star = Table((0, 1), tuple((0, n) for n in range(4)))
        heavy = Question(ABC, (star, Table((0, 2), star.rows), Table((1, 2), star.rows)))

        def log(flow):
            return (("cut", (1, 2), (0,)), ("cut", (0, 2), (0, 1), ((
                ("join", (0, 1), ABC), ("give up", ABC, flow), ("join", (0,), ABC), ("goal", ABC)),)))

        terms = (((), (0,), 1), ((0,), ABC, 1))
        right = [log((((ABC, 1),), terms, (), ())), log(((((0, 1), 1),), terms, (), (((0, 1), ABC, 1),))),
                 log(((((2,), 1),), terms, (), (((2,), ABC, 1),)))]
        wrong = [log((((ABC, 2),), terms, (), ())), log(((), terms, (), ())), log(((), (), (), ())), log(None),
                 log(terms), log((((ABC, 1),), terms + (((0, 1), ABC, 1),), (), ())),
                 log((((ABC, HUGE),), terms, (), ())), log((((ABC, 1),), (((), (0,), 2), ((0,), ABC, 1)), (), ())),
                 log((((ABC, 1),), terms, ())), log(((((0,), 1),), (((), (0,), 1),), (), ())),
                 log((((ABC, HUGE),), (((), ABC, HUGE),), (), ()))]
        for value in right:
            self.assertIsNotNone(followed_plainly(heavy, TOLD, WEB, value))
        check_judge(self, lambda value: is_log(heavy, TOLD, WEB, value), right, wrong)


class MostTest(unittest.TestCase):
    FLOW = ((((0, 1), 1),), (((), (0,), 1), ((), (1,), 1)), (((0,), (1,), 1),), ())

    def test_a_hundred_thousand_rows_and_more(self):
        wide = Table((0,), tuple((n,) for n in range(1000)))
        told = (((), (0,), 10), ((), (1,), 7))
        log = (("cut", (0,), (1,)), ("join", (1,), (0, 1)), ("goal", (0, 1)))
        just = Question((0, 1), (wide, Table((1,), tuple((n,) for n in range(100)))))
        self.assertEqual(len(log_answer(just, told, self.FLOW, run(just, told, self.FLOW))), 100000)
        self.assertEqual(log_sizes(just, told, self.FLOW, log), (100000,))
        more = Question((0, 1), (wide, Table((1,), tuple((n,) for n in range(101)))))
        refused(self, TooMany, run, (more, told, self.FLOW), 100000)
        for call in (is_log, log_answer, log_sizes, log_counts):
            refused(self, TooMany, call, (more, told, self.FLOW, log), 100000)

    def test_two_hundred_counts_and_more(self):
        one = Question((0,), (Table((0,), ((1,),)),))
        told = (((), (0,), 0),)
        for n in (200, 201):
            flow = ((((0,), n),), (((), (0,), n),), (), ())
            if n == 200:
                self.assertEqual(log_answer(one, told, flow, run(one, told, flow)).rows, ((1,),))
            else:
                refused(self, TooMany, run, (one, told, flow), 200)
                self.assertEqual(log_answer(one, told, flow, (("goal", (0,)),)).rows, ((1,),))

    def test_ends(self):
        self.assertEqual(logs.MOST_ENDS, 5000)
        chance = random.Random(127)
        question = Question(ABC, tuple(skewed_table(chance, some, 60, 12) for some in ASK.lots))
        told = exact_told(question, tuple(((), some) for some in ASK.lots))
        ends = log_counts(question, told, WEB, run(question, told, WEB))[0]
        self.assertGreater(ends, 2)
        with patch.object(logs, "MOST_ENDS", ends):
            self.assertEqual(log_counts(question, told, WEB, run(question, told, WEB))[0], ends)
        with patch.object(logs, "MOST_ENDS", ends - 1):
            refused(self, TooMany, run, (question, told, WEB), ends - 1)

    def test_many_ends(self):
        """A flow of many crossings leads through hundreds of pieces of pieces."""
        chance = random.Random(128)
        question = Question((0, 1, 2, 3, 4), tuple(skewed_table(chance, some, 60, 11) for some in RING))
        told = exact_told(question, tuple(((), some) for some in RING))
        log = run(question, told, CROSSED)
        self.assertGreater(log_counts(question, told, CROSSED, log)[0], 150)
        self.assertEqual(log_answer(question, told, CROSSED, log), answer(question))
        p, D = plan_bound(question, told, CROSSED)
        self.assertTrue(all(rows ** D <= 2 ** p for rows in log_sizes(question, told, CROSSED, log)))


    def test_flows_many_times(self):
        """A flow so often that its counts come to 200 leads through few ends, too."""
        chance = random.Random(129)
        lot = (0, 1, 2, 3)
        web = tuple(combinations(lot, 3))
        for _ in range(6):
            question = Question(lot, tuple(skewed_table(chance, some, 300, 20) for some in web))
            told = exact_told(question, tuple(((), some) for some in web))
            flow = least_bound(lot, told)[2]
            flow = scaled_flow(lot, flow, 200 // sum(n for things in flow[1:] for _, _, n in things))
            log = run(question, told, flow)
            self.assertIsNotNone(followed_plainly(question, told, flow, log))
            self.assertEqual(log_answer(question, told, flow, log), answer(question))
            self.assertLess(log_counts(question, told, flow, log)[0], 200)


class LesserFlowTest(unittest.TestCase):
    """What runs are led from: its logs are logs of the whole flow, as its terms are there, with no greater bound."""

    def check(self, lot, told, flow):
        found = lesser_flow(lot, told, flow)
        self.assertIs(flows_plainly(lot, found), True)
        ks = {(low, high): k for low, high, k in sorted(told, reverse=True)}
        costs, weights = [], []
        for one in (flow, found):
            costs.append(sum(n * ks[(low, high)] for low, high, n in one[1]))
            weights.append(sum(n for _, n in one[0]))
        self.assertGreater(weights[1], 0)
        self.assertLessEqual(costs[1] * weights[0], costs[0] * weights[1])
        whole = {(low, high): n for low, high, n in flow[1]}
        self.assertTrue(all(n <= whole.get((low, high), 0) for low, high, n in found[1]))
        self.assertLessEqual({some for some, _ in found[0]}, {some for some, _ in flow[0]})
        return found

    def test_drawn_flows(self):
        seen = 0
        for _, told, flow in RUNS:
            seen += self.check(self.lot_of(flow), told, flow) != flow
        self.assertGreater(seen, 10)

    def lot_of(self, flow):
        return flow[0][0][0]

    def test_many_times(self):
        for many in (1, 2, 66):
            self.assertEqual(self.check(ABC, TOLD, scaled_flow(ABC, WEB, many)), WEB)

    def test_where_the_cheapest_has_too_many_terms(self):
        told = (((), (1, 2), 6), ((), (2,), 2), ((2,), (0, 2), 2), ((2,), (1, 2), 0))
        flow = (((ABC, 1),), (((), (1, 2), 1), ((), (2,), 1), ((2,), (0, 2), 1), ((2,), (1, 2), 1)),
                (((0,), (1,), 1), ((0, 1), (0, 2), 1)), (((1,), (1, 2), 1), ((2,), (1, 2), 1)))
        self.assertEqual(self.check(ABC, told, flow), flow)
        twice = self.check(ABC, told, scaled_flow(ABC, flow, 2))
        self.assertIn(((), (2,), 2), twice[1])
        question = Question(ABC, (skewed_table(random.Random(1), ABC, 20, 4),))
        told = exact_told(question, tuple(one[:2] for one in told))
        log = run(question, told, flow)
        self.assertIsNotNone(followed_plainly(question, told, flow, log))
        self.assertEqual(log_answer(question, told, flow, log), answer(question))


class WrongArgumentsTest(unittest.TestCase):
    QUESTION = (InvalidQuestion, WRONG_QUESTIONS)
    TOLD = (InvalidTold, wrong_told((0, 1)))
    FLOW = ((InvalidFlow, wrong_flows((0, 1))), (InvalidOperation, (
        ((), (), (), ()), ((), (((), ABC, 1),), (), ()), ((((0, 1), 1),), (((), (0, 1), 1),), (), ()),
        (((ABC, 1),), (((), ABC, 1),), (), ()), ((((0, 1), 1), (ABC, 1)), (((), (0, 1), 1), ((), ABC, 1)), (), ()),
        (((ABC, 1),), (((), (0, 1), 1), ((0, 1), ABC, 1)), (), ()),
    )))

    def test_questions_told_degrees_and_flows(self):
        start = ((self.QUESTION,), (self.TOLD,), self.FLOW)
        for call in (plan_bound, run):
            check_wrongs(self, call, (ASK, TOLD, WEB), start)
        for value in (LOG, None):
            check_wrongs(self, is_log, (ASK, TOLD, WEB, value), start + ((),))
        wrong = (InvalidOperation, ODD + OBJECTS + BOOLS + LONG_NUMBERS + (
            0, (), LOG[:1], LOG[::-1], LOG + LOG, list(LOG), (("goal", ABC),), LOG[:1] + (LOG[1][:3] + ([END, END],),)))
        for call in (log_answer, log_sizes, log_counts):
            check_wrongs(self, call, (ASK, TOLD, WEB, LOG), start + ((wrong,),))

    def test_degrees_that_are_not_kept(self):
        calls = ((plan_bound, ()), (run, ()), (is_log, (LOG,)), (log_answer, (LOG,)), (log_sizes, (LOG,)),
                 (log_counts, (LOG,)))
        other = (WEB[0], (((), ABC, 2),), (), ())
        for told, index in ((TOLD + (((0,), (0, 1), 0),), 3), ((((0,), (0, 1), 0), ((), (0, 1), 1)) + TOLD, 0),
                            (TOLD[:1] + (((0, 1), ABC, 20),) + TOLD[1:], 1)):
            for call, more in calls:
                refused(self, Refused, call, (ASK, told, WEB) + more, ("degree", index))
                refused(self, InvalidOperation, call, (ASK, told, other) + more)
                refused(self, InvalidFlow, call, (ASK, told, WEB[:3]) + more)
        refused(self, Refused, run, (ASK, TOLD + (((0,), (0, 1), 0),), scaled_flow(ABC, WEB, 100)), ("degree", 3))
        refused(self, TooMany, run, (ASK, TOLD, scaled_flow(ABC, WEB, 100)), 200)

    def test_questions_without_letters(self):
        refused(self, InvalidOperation, run, (Question((), ()), (), ((), (), (), ())))


class NotTrueTest(unittest.TestCase):
    """[12.6]"""

    def test_joins_of_guards_can_be_above_the_bound(self):
        star = Table((0, 1), tuple((0, n) for n in range(4)))
        heavy = Question(ABC, (star, Table((0, 2), star.rows), Table((1, 2), star.rows)))
        p, D = plan_bound(heavy, TOLD, WEB)
        both = len(star) * len(heavy.parts[1])
        self.assertGreater(both ** D, 2 ** p)

    def test_ends_can_be_more_than_rows(self):
        none = Question(ABC, (TWO, Table((0, 2), TWO.rows), Table((1, 2), ((5, 5),))))
        log = (("cut", (1, 2), (0,)), ("cut", (0, 2), (0, 1), (END, END)))
        self.assertEqual((len(answer(none)), log_counts(none, TOLD, WEB, log)), (0, (2, 0)))

    def test_what_is_given_up_can_be_needed(self):
        """Without the term that is great no flow of what is left has two goals, as with it."""
        star = Table((0, 1), tuple((0, n) for n in range(4)))
        heavy = Question(ABC, (star, Table((0, 2), star.rows), Table((1, 2), star.rows)))
        left = (((ABC, 1),), (((), (0,), 1), ((0,), ABC, 1)), (), ())
        log = (("cut", (1, 2), (0,)), ("cut", (0, 2), (0, 1), ((
            ("join", (0, 1), ABC), ("give up", ABC, left), ("join", (0,), ABC), ("goal", ABC)),)))
        self.assertEqual(log_counts(heavy, TOLD, WEB, log), (1, 1))
        with_it = (((ABC, 2),), (((), (0,), 1), ((), ABC, 1), ((0,), ABC, 1)), (), ())
        self.assertIs(is_flow(ABC, with_it), True)
        self.assertIs(is_without(ABC, with_it, ABC, left), True)
        # The weight is at most how many terms there are from no letters on [10.2].
        self.assertEqual((weight_of(ABC, with_it), weight_of(ABC, left), sum(n for low, _, n in left[1] if low == ())),
                         (2, 1, 1))


if __name__ == "__main__":
    unittest.main()
