"""Told degrees and their bounds [0.11], [9.1] to [9.6], [0.14]: crestjoin.rank.degrees."""

import random
import unittest
from fractions import Fraction
from itertools import combinations
from math import gcd

from crestjoin.errors import InvalidLot, InvalidNumber, InvalidQuestion, InvalidRank, InvalidTold, Refused
from crestjoin.rank.degrees import (
    bound_answer, does_keep, exact_told, is_bound_answer, is_least_bound, is_told, keeps, least_bound, reached_letters,
)
from crestjoin.rank.ranks import parity_rank, step_rank
from crestjoin.table.joins import Question, answer, join
from crestjoin.table.tables import Table
from tests.support import (
    BOOLS, GREATEST, HUGE, LONG, LONG_NUMBERS, OBJECTS, ODD, SOME_TABLE, WRONG_LOTS, WRONG_QUESTIONS, all_lots,
    check_judge, check_wrongs, flows_plainly, part_of, random_question, ranks_plainly, refused, shown, some_ranks,
    wrong_numbers, wrong_told,
)

ABC = (0, 1, 2)
SIDES = (((), (0, 1), 4), ((), (0, 2), 4), ((), (1, 2), 4))
FLOW = (((ABC, 2),), (((), (0, 1), 1), ((), (0, 2), 1), ((), (1, 2), 1)), (((0,), (1, 2), 1), ((0, 1), (0, 2), 1)), ())
FIVE = (0, 1, 2, 4, 5)
LOTS = ((3,), (0, 4), ABC, (1, 2, 3, 5), FIVE)


def drawn_told(chance, lot, many, most=20):
    """Told degrees of the lot, some of one pair with several k."""
    pairs = [(low, high) for high in all_lots(lot) for low in all_lots(high) if low != high]
    return tuple(chance.choice(pairs) + (chance.randint(0, most),) for _ in range(many))


def drawn_tolds(seed, times):
    chance = random.Random(seed)
    for at in range(times):
        lot = LOTS[at % len(LOTS)]
        told = drawn_told(chance, lot, chance.choice((0, 1, 4, 10, 20)), chance.choice((0, 3, 20)))
        if at % 3 and told:
            told = told[:18] + (((), lot[:2], chance.randint(0, 20)), ((), lot[1:] or lot, chance.randint(0, 20)))
        yield lot, told


def least_ks(told):
    found = {}
    for low, high, k in sorted(told, reverse=True):
        found[(low, high)] = k
    return found


def keeps_plainly(told, s, h):
    return all(h[high] - h[low] <= s * k for low, high, k in told)


def cost_plainly(told, flow):
    ks = least_ks(told)
    return sum(n * ks[(low, high)] for low, high, n in flow[1])


def is_paper_plainly(lot, told, flow, p, D):
    """Whether a flow of the right form shows the bound."""
    if not flows_plainly(lot, flow) or [some for some, _ in flow[0]] != [lot]:
        return False
    if not all((low, high) in least_ks(told) for low, high, _ in flow[1]):
        return False
    return cost_plainly(told, flow) * D <= p * flow[0][0][1]


def is_rank_plainly(lot, told, s, h, p, D):
    """Whether a dict of the right form, with the scale, is above the bound."""
    return s >= 1 and ranks_plainly(lot, h) and keeps_plainly(told, s, h) and D * h[lot] > p * s


def reached_plainly(told):
    reached = set()
    for _ in range(7):
        for low, high, _ in told:
            if set(low) <= reached:
                reached |= set(high)
    return tuple(sorted(reached))


def check_least(test, lot, told, value):
    """The least bound, shown by its flow and by its rank."""
    if value[0] == "endless":
        test.assertEqual(len(value), 2)
        test.assertNotEqual(reached_plainly(told), lot)
        test.assertTrue(ranks_plainly(lot, value[1]) and value[1][lot] > 0)
        test.assertTrue(keeps_plainly([(low, high, 0) for low, high, _ in told], 1, value[1]))
        return None
    name, (p, D), flow, s, h = value
    test.assertEqual((name, gcd(p, D)), ("least", 1))
    test.assertTrue(p >= 0 and D >= 1 and s >= 1)
    test.assertTrue(is_paper_plainly(lot, told, flow, p, D))
    test.assertEqual(cost_plainly(told, flow) * D, p * flow[0][0][1])
    test.assertTrue(ranks_plainly(lot, h) and keeps_plainly(told, s, h))
    test.assertEqual(D * h[lot], p * s)
    return Fraction(p, D)


def bound_of(lot, told):
    told = least_bound(lot, told)
    return None if told[0] == "endless" else Fraction(*told[1])


class ToldTest(unittest.TestCase):
    def test_is_told(self):
        one = ((), (0, 1), 4)
        right = [(), (one,), SIDES, (one,) * 20, (((), (0,), 0),), (((), (0,), 20),), ((ABC[:1], ABC, 20), one),
                 SIDES[::-1], tuple((low, ABC, 1) for low in all_lots(ABC) if low != ABC)]
        wrong = [value for value in wrong_told((0, 1)) if shown(value) != shown((((5,), (0, 1), 1),))]
        check_judge(self, lambda value: is_told(ABC, value), right, wrong + [(((5,), (0, 1), 1),), (((), (0, 3), 1),)])
        check_judge(self, lambda value: is_told((), value), [()], [(((), (), 0),), (((), (0,), 1),)])
        six = (0, 1, 2, 3, 4, 5)
        self.assertIs(is_told(six, (((), six, 20), (six[:5], six, 0))), True)
        for k in (HUGE, -HUGE, 21, -1):
            self.assertIs(is_told(ABC, (((), (0,), k),)), False)

    def test_what_questions_keep(self):
        """[0.11]: for each such row at most so many such ones, in some part."""
        chance = random.Random(91)
        seen = set()
        for letters in ((0, 1), (0, 1, 2), (1, 2, 3, 5), (0, 1, 2, 3, 4, 5)):
            for _ in range(6):
                question = random_question(chance, letters, (0, 1, 2), 4)
                told = drawn_told(chance, letters, 20, 4)
                plain = []
                for low, high, k in told:
                    parts = [part for part in question.parts if set(high) <= set(part.lot)]
                    plain.append(any(degree_plainly(part, low, high) <= 2 ** k for part in parts))
                self.assertEqual(keeps(question, told), tuple(plain))
                seen.update(plain)
        self.assertEqual(seen, {True, False})
        self.assertEqual(keeps(Question((), ()), ()), ())

    def test_exact_told_degrees(self):
        chance = random.Random(92)
        seen = set()
        for letters in ((0, 1), (0, 1, 2), (1, 2, 3, 5)):
            for _ in range(8):
                question = random_question(chance, letters, (0, 1, 2), 4)
                pairs = tuple(pair[:2] for pair in drawn_told(chance, letters, 6))
                lost = [pair for pair in pairs if not any(set(pair[1]) <= set(lot) for lot in question.lots)]
                seen.add(bool(lost))
                if lost:
                    refused(self, Refused, exact_told, (question, pairs), ("part",) + lost[0])
                    pairs = tuple(pair for pair in pairs if pair not in lost)
                told = exact_told(question, pairs)
                self.assertEqual(tuple(one[:2] for one in told), pairs)
                self.assertTrue(all(keeps(question, told)))
                for low, high, k in told:
                    self.assertTrue(k == 0 or keeps(question, ((low, high, k - 1),)) == (False,))
        self.assertEqual(seen, {True, False})
        self.assertEqual(exact_told(Question((0,), (Table((0,), ()),)), (((), (0,)),) * 20), (((), (0,), 0),) * 20)
        self.assertEqual(exact_told(Question((), ()), ()), ())

    def test_tables_of_many_rows(self):
        """[0.11]: parts can have more than 1,000 rows, if a join made them."""
        many = join(Table((0,), tuple((n,) for n in range(1000))), Table((1,), tuple((n,) for n in range(100))))
        question = Question((0, 1), (many,))
        self.assertEqual(exact_told(question, (((), (0, 1)), ((0,), (0, 1)))), (((), (0, 1), 17), ((0,), (0, 1), 7)))
        self.assertEqual(keeps(question, (((), (0, 1), 17), ((), (0, 1), 16), ((), (0, 1), 20))), (True, False, True))

    def test_groups_just_at_a_power_of_two(self):
        for n in (1, 2, 3, 4, 5, 8, 9, 512, 513):
            question = Question((0,), (Table((0,), tuple((m,) for m in range(n))),))
            k = (n - 1).bit_length()
            self.assertEqual(exact_told(question, (((), (0,)),)), (((), (0,), k),))
            self.assertEqual(keeps(question, (((), (0,), k),)), (True,))


def degree_plainly(part, low, high):
    above = {}
    for row in part.rows:
        above.setdefault(part_of(part.lot, row, low), set()).add(part_of(part.lot, row, high))
    return max([len(rows) for rows in above.values()], default=0)


class KeepTest(unittest.TestCase):
    def test_ranks_that_keep(self):
        """[9.1]"""
        seen = set()
        for lot, told in drawn_tolds(93, 40):
            for h in some_ranks(lot, 94, 6):
                for s in (1, 2, GREATEST):
                    self.assertIs(does_keep(lot, told, s, h), keeps_plainly(told, s, h))
                    seen.add(keeps_plainly(told, s, h))
        self.assertEqual(seen, {True, False})
        self.assertIs(does_keep((0,), (((), (0,), 1),), 1, {(): 0, (0,): 1}), True)
        self.assertIs(does_keep((0,), (((), (0,), 1),), 1, {(): 0, (0,): 2}), False)
        self.assertIs(does_keep((0,), (((), (0,), 1),), 2, {(): 0, (0,): 2}), True)
        self.assertIs(does_keep((0,), (((), (0,), 0),), 2, {(): 0, (0,): HUGE}), False)
        self.assertIs(does_keep((0,), (), 1, {(): 0, (0,): HUGE}), True)

    def test_reached_letters(self):
        """[9.4]"""
        seen = set()
        for lot, told in drawn_tolds(95, 150):
            self.assertEqual(reached_letters(lot, told), reached_plainly(told))
            seen.add(reached_plainly(told) == lot)
        self.assertEqual(seen, {True, False})
        chain = tuple(((n,), (n, n + 1), 0) for n in (3, 2, 1, 0))
        self.assertEqual(reached_letters((0, 1, 2, 3, 4), chain), ())
        self.assertEqual(reached_letters((0, 1, 2, 3, 4), chain + (((), (0,), 0),)), (0, 1, 2, 3, 4))
        self.assertEqual(reached_letters((0, 1, 2, 3, 4), chain + (((), (2,), 0),)), (2, 3, 4))


class BoundTest(unittest.TestCase):
    def test_least_bounds(self):
        """[9.3], [9.4]: its flow and its rank meet, or letters are not reached."""
        seen = set()
        for lot, told in drawn_tolds(96, 110):
            value = least_bound(lot, told)
            bound = check_least(self, lot, told, value)
            self.assertIs(is_least_bound(lot, told, value), True)
            self.assertEqual(bound is None, reached_plainly(told) != lot)
            seen.add(None if bound is None else bound.denominator)
        self.assertTrue(seen >= {None, 1})

    def test_bounds_that_are_no_whole_numbers(self):
        ring = tuple(((), tuple(sorted((n, (n + 1) % 5))), 3) for n in range(5))
        self.assertEqual(least_bound((0, 1, 2, 3, 4), ring)[1], (15, 2))
        self.assertEqual(least_bound(ABC, tuple((low, high, 1) for low, high, _ in SIDES))[1], (3, 2))
        for n, k in ((3, 5), (4, 7), (5, 9)):
            lot = tuple(range(n))
            for m in range(1, n):
                told = tuple(((), some, k) for some in combinations(lot, m))
                self.assertEqual(bound_of(lot, told), Fraction(n * k, m))

    def test_either_or(self):
        """[9.3], [0.14]: for each bound a flow, or a rank."""
        seen = {"paper": 0, "rank": 0}
        for at, (lot, told) in enumerate(drawn_tolds(97, 60)):
            least = bound_of(lot, told)
            tried = [(0, 1), (GREATEST, 1), (0, GREATEST), (1, GREATEST), (GREATEST, GREATEST)]
            if least is not None:
                p, D = least.numerator, least.denominator
                tried += [(p, D), (7 * p, 7 * D), (7 * p - 1, 7 * D), (7 * p + 1, 7 * D), (max(p - 1, 0), D),
                          (p + 1, D)]
            for p, D in tried:
                if p < 0:
                    continue
                value = bound_answer(lot, told, p, D)
                seen[value[0]] += 1
                if value[0] == "paper":
                    self.assertTrue(is_paper_plainly(lot, told, value[1], p, D))
                else:
                    self.assertTrue(is_rank_plainly(lot, told, value[1], value[2], p, D))
                self.assertEqual(value[0] == "paper", least is not None and least <= Fraction(p, D))
                self.assertIs(is_bound_answer(lot, told, p, D, value), True)
        self.assertGreater(min(seen.values()), 80)

    def test_never_both(self):
        """[9.2]: no rank that is tried is above a least bound, and no flow below it is judged right."""
        for lot, told in drawn_tolds(98, 40):
            least = bound_of(lot, told)
            if least is None:
                continue
            flow = least_bound(lot, told)[2]
            for h in list(some_ranks(lot, 99, 20)) + [step_rank(lot, some) for some in all_lots(lot)[1:]]:
                ks = [Fraction(h[high] - h[low], k) for low, high, k in told if k > 0]
                s = max(1, -(-max(ks, default=Fraction(0)) // 1))
                if keeps_plainly(told, s, h):
                    self.assertLessEqual(h[lot], least * s)
            if least > 0:
                p, D = 5 * least.numerator - 1, 5 * least.denominator
                self.assertIs(is_bound_answer(lot, told, p, D, ("paper", flow)), False)

    def test_more_told_and_more_letters(self):
        """[9.5]"""
        chance = random.Random(910)
        seen = 0
        for lot, told in drawn_tolds(911, 80):
            least = bound_of(lot, told)
            if least is None or not told:
                continue
            seen += 1
            at = chance.randrange(len(told))
            low, high, k = told[at]
            lesser = told[:at] + ((low, high, chance.randint(0, k)),) + told[at + 1:]
            self.assertLessEqual(bound_of(lot, lesser), least)
            self.assertLessEqual(bound_of(lot, (told + drawn_told(chance, lot, 1))[-20:]),
                                 least if len(told) < 20 else HUGE)
            c = 20 // max([k for _, _, k in told] + [1])
            self.assertEqual(bound_of(lot, tuple((low, high, c * k) for low, high, k in told)), c * least)
            for some in all_lots(lot)[1:]:
                within = tuple(one for one in told if set(one[1]) <= set(some))
                bound = bound_of(some, within)
                if bound is not None:
                    # All told degrees of the whole lot, and that all letters follow from the lesser one.
                    full = told + ((some, lot, 0),) if some != lot else told
                    if len(full) <= 20:
                        self.assertGreaterEqual(bound, bound_of(lot, full))
        self.assertGreater(seen, 20)

    def test_the_bound_holds_for_answers(self):
        """[9.3]: with what the question keeps."""
        chance = random.Random(912)
        for letters in ((0, 1), (0, 1, 2), (1, 2, 3, 5)):
            for _ in range(8):
                question = random_question(chance, letters, (0, 1, 2), 4)
                pairs = [((), lot) for lot in question.lots if lot]
                pairs += [(low, lot) for lot in question.lots for low in all_lots(lot)[1:] if low != lot]
                p, D = least_bound(letters, exact_told(question, tuple(pairs[:20])))[1]
                self.assertLessEqual(len(answer(question)) ** D, 2 ** p)

    def test_edges(self):
        self.assertEqual(least_bound((3,), (((), (3,), 0),))[:2], ("least", (0, 1)))
        self.assertEqual(least_bound((3,), (((), (3,), 20), ((), (3,), 7)))[1], (7, 1))
        self.assertEqual(least_bound((3,), ())[0], "endless")
        self.assertEqual(bound_answer((3,), (((), (3,), 0),), 0, 1)[0], "paper")
        self.assertEqual(bound_answer((3,), (((), (3,), 1),), 0, 1)[0], "rank")
        self.assertEqual(bound_answer((3,), (), GREATEST, 1)[0], "rank")
        pairs = tuple(((), some, 20) for some in combinations(FIVE, 2))
        self.assertEqual(least_bound(FIVE, pairs)[1], (50, 1))
        both = pairs + tuple((some[:1], some, 1) for some in combinations(FIVE, 2))
        self.assertEqual(bound_of(FIVE, both), 23)

    def test_a_least_flow_serves_as_a_plan(self):
        """No more is crossed than is needed: of lots with common letters no more than by basic crossings."""
        told = tuple(((), some, 4) for some in combinations(FIVE, 2))
        flow = least_bound(FIVE, told)[2]
        self.assertLessEqual(sum(n for things in flow[1:] for *_, n in things), 20)


class JudgeTest(unittest.TestCase):
    def test_flows_without_goals_show_no_bound(self):
        free = ((), (((), (3,), 1),), (), ())
        one = ((((3,), 1),),) + free[1:]
        told, rank = (((), (3,), 0),), {(): 0, (3,): 0}
        check_judge(self, lambda value: is_bound_answer((3,), told, 0, 1, value), [("paper", one)], [("paper", free)])
        check_judge(self, lambda value: is_least_bound((3,), told, value), [("least", (0, 1), one, 1, rank)],
                    [("least", (0, 1), free, 1, rank)])

    def test_is_bound_answer(self):
        huge = tuple(tuple(thing[:-1] + (thing[-1] * HUGE,) for thing in things) for things in FLOW)
        basic = (((ABC, 2),), FLOW[1], (((0,), (1,), 1), ((0, 1), (0, 2), 1), ((0, 1), (1, 2), 1)), ())
        right = [("paper", flow) for flow in (FLOW, huge, basic)]
        wrong = [("paper", ((),) + FLOW[1:]), ("paper", ((((0, 1), 1),),) + FLOW[1:]),
                 ("paper", (((ABC, 1),),) + FLOW[1:]), ("paper", (((ABC, 2),), (((), ABC, 2),), (), ())),
                 ("paper", FLOW, 0), ("paper",), ("rank", FLOW), ("paper", FLOW[:3]), ("paper", None), ("papers", FLOW),
                 (None, FLOW), ("paper", ((((0, 1), 1), (ABC, 1)),) + FLOW[1:]), ("rank", 1, parity_rank(ABC, ABC)),
                 ("paper", (((ABC, 2 * HUGE + 1),),) + huge[1:]), ("paper", ((), (), (), ()))]
        check_judge(self, lambda value: is_bound_answer(ABC, SIDES, 6, 1, value), right, wrong)
        check_judge(self, lambda value: is_bound_answer(ABC, SIDES, 600, 100, value), right, wrong)
        for value in right:
            self.assertIs(is_bound_answer(ABC, SIDES, 599, 100, value), False)
        h = {some: 2 * len(some) for some in all_lots(ABC)}
        right = [("rank", 1, h), ("rank", HUGE, {some: HUGE * n for some, n in h.items()}),
                 ("rank", 1, dict(reversed(h.items()))), ("rank", 3, {some: 6 * len(some) for some in all_lots(ABC)}),
                 ("rank", HUGE + 1, {some: HUGE * n for some, n in h.items()})]
        wrong = [("rank", 0, h), ("rank", -1, h), ("rank", 2, h), ("rank", 1, {**h, ABC: 5}),
                 ("rank", 1, {**h, ABC: 7}), ("rank", 1, {some: 3 * len(some) for some in h}), ("rank", h),
                 ("rank", 1, h, 0), ("rank", 1, None), ("rank", h, 1), ("rank", "1", h), ("paper", 1, h),
                 ("rank", 1, {**h, (3,): 0}), ("rank", 1, {}), ("rank", 1, tuple(h.items())),
                 ("rank", 2 * HUGE, {some: HUGE * n for some, n in h.items()}), ("paper", FLOW)]
        check_judge(self, lambda value: is_bound_answer(ABC, SIDES, 11, 2, value), right, wrong)
        self.assertIs(is_bound_answer(ABC, SIDES, 6, 1, ("rank", 1, h)), False)

    def test_terms_that_are_not_told(self):
        told = (((), (0,), 1), ((), (0, 1), 5))
        good = ((((0, 1), 1),), (((), (0, 1), 1),), (), ())
        bad = ((((0, 1), 1),), (((), (0,), 1), ((), (1,), 1)), (((0,), (1,), 1),), ())
        check_judge(self, lambda value: is_bound_answer((0, 1), told, 9, 1, value), [("paper", good)], [("paper", bad)])

    def test_is_least_bound(self):
        h = {some: 2 * len(some) for some in all_lots(ABC)}
        s, many = HUGE, {some: HUGE * n for some, n in h.items()}
        huge = tuple(tuple(thing[:-1] + (thing[-1] * HUGE,) for thing in things) for things in FLOW)
        right = [("least", (6, 1), FLOW, 1, h), ("least", (6, 1), huge, s, many), ("least", (6, 1), FLOW, s, many)]
        wrong = [("least", (12, 2), FLOW, 1, h), ("least", (6, 1), FLOW, 2, h), ("least", (7, 1), FLOW, 1, h),
                 ("endless", h), ("least", (6, 1), FLOW, 1), ("least", (6, 1), FLOW, 1, h, 0),
                 ("least", (6, 1), ((),) + FLOW[1:], 1, h), ("least", (6, 1), FLOW, 1, {**h, ABC: 5}),
                 ("least", (6,), FLOW, 1, h), ("least", 6, FLOW, 1, h), ("least", (6, 0), FLOW, 1, h),
                 ("least", (-6, -1), FLOW, 1, h), ("least", (5, 1), FLOW, 1, h), ("least", ("6", 1), FLOW, 1, h),
                 ("least", (6, 1), h, 1, FLOW), ("least", (6, 1), FLOW, 0, h),
                 ("least", (6, 1), FLOW, 1, {some: 0 for some in h}), ("most", (6, 1), FLOW, 1, h),
                 ("least", None, FLOW, 1, h), ("least", (6 * HUGE, HUGE), FLOW, 1, h),
                 ("least", (6, 1), FLOW, s + 1, many), ("least", (6, 1), None, 1, h),
                 ("least", (6, 1), ((), (), (), ()), 1, h), ("least", (0, 1), ((), (), (), ()), 1, h)]
        check_judge(self, lambda value: is_least_bound(ABC, SIDES, value), right, wrong)
        none = tuple((low, high, 0) for low, high, _ in SIDES)
        zero = dict.fromkeys(h, 0)
        right = [("least", (0, 1), FLOW, 1, zero), ("least", (0, 1), huge, HUGE, zero)]
        wrong = [("least", (0, 2), FLOW, 1, zero), ("least", (0, 1), FLOW, 0, zero), ("least", (0, 0), FLOW, 1, zero),
                 ("least", (0, 1), FLOW, 1, step_rank(ABC, ABC)), ("least", (0, -1), FLOW, 1, zero)]
        check_judge(self, lambda value: is_least_bound(ABC, none, value), right, wrong)

    def test_endless(self):
        h = step_rank(ABC, (2,))
        right = [("endless", h), ("endless", {some: HUGE * n for some, n in h.items()})]
        wrong = [("endless", step_rank(ABC, ABC)), ("endless", {some: 0 for some in h}), ("endless", {**h, ABC: 2}),
                 ("endless",), ("endless", h, 0), ("endless", 1, h), ("endless", None), ("least", h), ("rank", h),
                 ("endless", {}), ("endless", {some: -n for some, n in h.items()})]
        check_judge(self, lambda value: is_least_bound(ABC, SIDES[:1], value), right, wrong)
        for value in right:
            self.assertIs(is_least_bound(ABC, SIDES, value), False)


class WrongArgumentsTest(unittest.TestCase):
    LOT = (InvalidLot, WRONG_LOTS + ((), (0, 1, 2, 3, 4, 5)))
    ANY_LOT = (InvalidLot, WRONG_LOTS)
    TOLD = (InvalidTold, wrong_told((0, 1)))
    QUESTION = (InvalidQuestion, WRONG_QUESTIONS)
    RIGHT = (((), (0, 1), 4),)

    def test_bounds(self):
        p, D = (InvalidNumber, wrong_numbers(0)), (InvalidNumber, wrong_numbers(1))
        start = ((self.LOT,), (self.TOLD,))
        check_wrongs(self, reached_letters, ((0, 1), self.RIGHT), start)
        check_wrongs(self, least_bound, ((0, 1), self.RIGHT), start)
        check_wrongs(self, bound_answer, ((0, 1), self.RIGHT, 4, 1), start + ((p,), (D,)))
        for value in (("paper", FLOW), None):
            check_wrongs(self, is_least_bound, ((0, 1), self.RIGHT, value), start + ((),))
        check_wrongs(self, is_bound_answer, ((0, 1), self.RIGHT, 4, 1, None), start + ((p,), (D,), ()))
        for value in ((), None):
            check_wrongs(self, is_told, ((0, 1), value), ((self.ANY_LOT,), ()))

    def test_ranks_that_keep(self):
        s = (InvalidNumber, wrong_numbers(1))
        h = step_rank((0, 1), (0, 1))
        rank = (InvalidRank, ODD + OBJECTS + BOOLS + LONG_NUMBERS + (
            0, (), {(): 0}, {**h, (): 1}, {**h, (0, 1): 0}, {**h, (0,): True}, {**h, (2,): 1}, tuple(h.items()),
            {**h, (0,): None},
        ))
        check_wrongs(self, does_keep, ((0, 1), self.RIGHT, GREATEST, h), ((self.LOT,), (self.TOLD,), (s,), (rank,)))

    def test_questions(self):
        question = Question((0, 1), (SOME_TABLE,))
        check_wrongs(self, keeps, (question, self.RIGHT), ((self.QUESTION,), (self.TOLD,)))
        pair = ((), (0, 1))
        pairs = (InvalidTold, ODD + OBJECTS + BOOLS + LONG_NUMBERS + (
            0, ((),), (0,), pair, (pair + (1,),), (pair,) * 21, (((0, 1), (0, 1)),), (((0, 1), ()),), (((), (2,)),),
            [pair], ([(), (0, 1)],), ((None, (0, 1)),), (((), [0, 1]),), (((), (True,)),), {(): (0, 1)},
            (((), (1, 0)),), (pair, None), ((0, 1),), (((), 1),),
        ))
        check_wrongs(self, exact_told, (question, (pair,)), ((self.QUESTION,), (pairs,)))

    def test_pairs_that_are_within_no_part(self):
        question = Question((0, 1), (Table((0,), ()), Table((1,), ())))
        pairs = (((), (0,)), ((0,), (0, 1)), ((), (0, 1)))
        refused(self, Refused, exact_told, (question, pairs), ("part", (0,), (0, 1)))
        refused(self, InvalidTold, exact_told, (question, pairs + (((), (2,)),)))
        self.assertEqual(keeps(question, (((), (0, 1), 20),)), (False,))

    def test_questions_of_six_letters_and_of_none(self):
        six = (0, 1, 2, 3, 4, 5)
        question = Question(six, (Table(six, (six, six[::-1])),))
        self.assertEqual(exact_told(question, (((), six), ((0,), six))), (((), six, 1), ((0,), six, 0)))
        self.assertEqual(keeps(question, (((), six, 0),)), (False,))
        refused(self, InvalidLot, least_bound, (six, (((), six, 0),)))
        refused(self, InvalidTold, keeps, (Question((), ()), (((), (0,), 1),)))

    def test_long_numbers(self):
        refused(self, InvalidNumber, bound_answer, ((0,), (((), (0,), 1),), LONG, 1), LONG)
        self.assertEqual(bound_answer((0,), (((), (0,), 1),), GREATEST, GREATEST)[0], "paper")


class NotTrueTest(unittest.TestCase):
    """[9.6]"""

    def test_a_least_bound_need_not_be_whole(self):
        self.assertEqual(least_bound(ABC, tuple((low, high, 1) for low, high, _ in SIDES))[1], (3, 2))

    def test_told_degrees_on_three_letters_matter(self):
        self.assertEqual(least_bound(ABC, SIDES)[1], (6, 1))
        self.assertEqual(least_bound(ABC, SIDES + (((), ABC, 5),))[1], (5, 1))
        self.assertEqual(least_bound(ABC, SIDES + (((0, 1), ABC, 0),))[1], (4, 1))

    def test_not_each_told_degree_is_a_term(self):
        told = (((), (0,), 1), ((), (0,), 2), ((), (1,), 1), ((), (0, 1), 20))
        self.assertEqual(reached_letters((0, 1), told), (0, 1))
        p, D = least_bound((0, 1), told)[1]
        self.assertEqual((p, D), (2, 1))
        # A term of (0, 1) costs 20 for each goal that comes of it, and shows no more than what costs 2.
        with_it = ((((0, 1), 1),), (((), (0, 1), 1),), (), ())
        self.assertIs(is_bound_answer((0, 1), told, p, D, ("paper", with_it)), False)
        flow = least_bound((0, 1), told)[2]
        self.assertNotIn(((), (0, 1)), [term[:2] for term in flow[1]])


if __name__ == "__main__":
    unittest.main()
