"""Flows [0.12], [10.1] to [10.6]: crestjoin.flow.flows."""

import random
import unittest

from crestjoin.errors import InvalidFlow, InvalidLot, InvalidNumber, InvalidOperation, TooMany
from crestjoin.flow import flows
from crestjoin.flow.flows import (
    are_steps, flow_sum, inflow, is_flow, is_without, scaled_flow, steps_of, weight_of, without,
)
from crestjoin.rank.ranks import step_rank
from tests.support import (
    GREATEST, HUGE, LONG, WRONG_LOTS, all_lots, check_judge, check_wrongs, common, drawn_flow, flows_plainly, inflows,
    refused, shown, some_ranks, union, wrong_flows, wrong_numbers,
)

ABC = (0, 1, 2)
WEB = (((ABC, 2),), (((), (0, 1), 1), ((), (0, 2), 1), ((), (1, 2), 1)), (((0,), (1, 2), 1), ((0, 1), (0, 2), 1)), ())
STEPS = (("cut", (1, 2), (0,)), ("cut", (0, 2), (0, 1)), ("join", (0, 1), ABC), ("goal", ABC), ("join", (0,), ABC),
         ("goal", ABC))
NONE = ((), (), (), ())
LOTS = ((3,), (0, 4), ABC, (1, 2, 3, 5), (0, 1, 2, 3, 4), (0, 1, 2, 3, 4, 5))


def drawn_flows(seed, times, most=3):
    """Flows on lots of one to six letters, some without goals, some without crossings."""
    chance = random.Random(seed)
    yield (), NONE
    for at in range(times):
        lot = LOTS[at % len(LOTS)]
        yield lot, drawn_flow(chance, lot, chance.choice((0, 1, 3, 6, 12)), chance.choice((1, most)),
                              chance.choice((None, lot)))


FLOWS = list(drawn_flows(101, 120))


def change(value, path, other):
    """The value with another one at the place to which the path leads."""
    if path == ():
        return other
    return value[:path[0]] + (change(value[path[0]], path[1:], other),) + value[path[0] + 1:]


def near_flows(flow):
    """Values near a flow: each count one less and one more, each thing left out."""
    for at, things in enumerate(flow):
        for place, thing in enumerate(things):
            for by in (-1, 1):
                yield change(flow, (at, place), thing[:-1] + (thing[-1] + by,))
            yield change(flow, (at,), things[:place] + things[place + 1:])


def steps_plainly(lot, flow, steps):
    """Whether steps of the right form are steps of the flow, taken one by one on a bag of the test's own."""
    bag = [(low, high) for low, high, n in flow[1] for _ in range(n)]
    left = [some for some, n in flow[0] for _ in range(n)]
    for kind, Z, *more in steps:
        out, put = [((), Z)], []
        if kind == "goal":
            if Z not in left:
                return False
            left.remove(Z)
        elif kind == "drop":
            if not set(more[0]) < set(Z):
                return False
            put = [((), more[0])]
        elif kind == "cut":
            J = more[0]
            if set(J) <= set(Z) or set(Z) <= set(J) or not set(J) <= set(lot):
                return False
            put = [((), common(Z, J)), (J, union(Z, J))]
        elif kind == "join":
            out, put = [((), Z), (Z, more[0])], [((), more[0])]
        elif kind != "spare":
            return False
        for term in out:
            if term not in bag:
                return False
            bag.remove(term)
        bag += [term for term in put if term != ((), ())]
    return left == []


def without_plainly(lot, flow, some, value):
    """Whether a value of the right form is what `without` tells."""
    terms = {(low, high): n for low, high, n in flow[1]}
    terms[((), some)] -= 1
    goals = dict(flow[0])
    return (flows_plainly(lot, value) and all(n <= terms.get((low, high), 0) for low, high, n in value[1])
            and all(n <= goals.get(Z, 0) for Z, n in value[0])
            and sum(n for _, n in value[0]) >= sum(goals.values()) - 1)


class FlowTest(unittest.TestCase):
    def test_is_flow_by_adding_up(self):
        """[10.1]: what flows in at each lot."""
        seen = set()
        for lot, flow in FLOWS:
            self.assertTrue(flows_plainly(lot, flow))
            self.assertIs(is_flow(lot, flow), True)
            for near in near_flows(flow):
                right = flows_plainly(lot, near)
                seen.add(right)
                self.assertIs(is_flow(lot, near), right, near)
        self.assertEqual(seen, {True, False})

    def test_is_flow_as_a_judge(self):
        huge = change(change(WEB, (0, 0, 1), 2 * HUGE), (1,), tuple(term[:2] + (HUGE,) for term in WEB[1]))
        huge = change(huge, (2,), tuple(thing[:2] + (HUGE,) for thing in WEB[2]))
        more = change(WEB, (1, 0, 2), 7)
        right = [WEB, huge, more, NONE, ((),) + WEB[1:],
                 change(more, (3,), (((), (0, 1), 2), ((0,), (0, 1), 3)))]
        wrong = [value for value in wrong_flows((0, 1)) if "1000000000" not in shown(value)]
        wrong += [change(huge, (0, 0, 1), 2 * HUGE + 1), change(WEB, (2,), WEB[2][::-1]),
                  change(WEB, (1,), WEB[1][::-1]), change(WEB, (2, 0), ((1, 2), (0,), 1)), WEB[:3], WEB + ((),),
                  change(WEB, (0, 0), ((0, 1, 2, 3), 2)), change(WEB, (1, 0), ((), (0, 4), 1)),
                  change(WEB, (2, 0), ((0,), (1, 4), 1)), change(WEB, (3,), None)]
        check_judge(self, lambda value: is_flow(ABC, value), right, wrong)
        check_judge(self, lambda value: is_flow((), value), [NONE], [WEB, (((), 1),) + NONE[1:],
                                                                     ((((), 1),), (), (), ())])
        check_judge(self, lambda value: is_flow((3,), value), [NONE, ((((3,), 1),), (((), (3,), 1),), (), ())],
                    [((((3,), 2),), (((), (3,), 1),), (), ()), ((((3,), 1),), (), (), ())])

    def test_flows_of_one_kind_of_thing(self):
        lone = ((), (((), (0,), 1), ((0,), (0, 1), 1)), (), ())
        self.assertIs(is_flow((0, 1), lone), True)
        self.assertIs(is_flow((0, 1), ((((0,), 1),),) + lone[1:]), False)
        self.assertIs(is_flow((0, 1), ((((0, 1), 1),),) + lone[1:]), True)
        crossing = ((((0, 1), 1),), (((), (0,), 1), ((), (1,), 1)), (((0,), (1,), 1),), ())
        self.assertIs(is_flow((0, 1), crossing), True)
        self.assertIs(is_flow((0, 1), change(crossing, (2,), ())), False)
        drop = ((((0,), 1),), (((), (0, 1), 1),), (), (((0,), (0, 1), 1),))
        self.assertIs(is_flow((0, 1), drop), True)
        self.assertIs(is_flow((0, 1), change(drop, (3,), ())), False)
        # A drop to () takes off, and adds nowhere.
        self.assertIs(is_flow((0, 1), ((), (((), (0,), 1),), (), (((), (0,), 1),))), True)
        self.assertIs(is_flow((0, 1), ((), (((), (0,), 1),), (), (((), (0,), 2),))), False)

    def test_inflows_and_weights(self):
        for lot, flow in FLOWS:
            told = inflows(flow)
            for some in all_lots(lot)[1:]:
                self.assertEqual(inflow(lot, flow, some), told.get(some, 0))
            self.assertEqual(weight_of(lot, flow), sum(n for _, n in flow[0]))

    def test_what_it_shows(self):
        """[10.2]: for each rank, and the rank that is 1 at all lots but ()."""
        for lot, flow in FLOWS:
            if len(lot) < 6:
                for h in list(some_ranks(lot, 102, 5)) + ([step_rank(lot, lot)] if lot else []):
                    shows = sum(n * h[some] for some, n in flow[0])
                    self.assertLessEqual(shows, sum(n * (h[high] - h[low]) for low, high, n in flow[1]))
            self.assertLessEqual(weight_of(lot, flow), sum(n for low, _, n in flow[1] if low == ()))

    def test_multiples_and_sums(self):
        for (lot, flow), (_, other) in zip(FLOWS, FLOWS[len(LOTS):]):
            for number in (1, 2, GREATEST):
                scaled = scaled_flow(lot, flow, number)
                self.assertEqual(scaled, tuple(tuple(thing[:-1] + (thing[-1] * number,) for thing in things)
                                               for things in flow))
                self.assertIs(is_flow(lot, scaled), True)
            if is_flow(lot, other):
                both = flow_sum(lot, flow, other)
                self.assertTrue(flows_plainly(lot, both))
                for one, more, total in zip(flow, other, both):
                    names = {thing[:-1] for thing in one + more}
                    counts = [{thing[:-1]: thing[-1] for thing in things} for things in (one, more)]
                    self.assertEqual(dict((thing[:-1], thing[-1]) for thing in total),
                                     {name: counts[0].get(name, 0) + counts[1].get(name, 0) for name in names})
        self.assertEqual(flow_sum(ABC, WEB, WEB), scaled_flow(ABC, WEB, 2))
        self.assertEqual(flow_sum(ABC, WEB, NONE), WEB)
        great = scaled_flow(ABC, NONE[:1] + ((((), (0,), 1),),) + NONE[2:], GREATEST)
        self.assertEqual(flow_sum(ABC, great, great)[1], (((), (0,), 2 * GREATEST),))


class StepsTest(unittest.TestCase):
    def test_each_flow_has_steps(self):
        """[10.3], [10.4]: taken one by one on the test's own bag."""
        for lot, flow in FLOWS:
            if sum(n for things in flow[1:] for *_, n in things) <= 200:
                steps = steps_of(lot, flow)
                self.assertTrue(steps_plainly(lot, flow, steps))
                self.assertIs(are_steps(lot, flow, steps), True)
                crossings = sum(n for *_, n in flow[2])
                self.assertLessEqual(len(steps), 2 * crossings + sum(n for *_, n in flow[1] + flow[3]))

    def test_flows_of_others_by_their_own_steps(self):
        """[10.3]: steps that are drawn, right and wrong."""
        chance = random.Random(103)
        seen = {True: 0, False: 0}
        for lot, flow in FLOWS:
            if len(lot) > 4 or sum(n for *_, n in flow[1]) > 60:
                continue
            lots = all_lots(lot)
            steps = steps_of(lot, flow)
            tried = [steps[:at] + steps[at + 1:] for at in range(len(steps))]
            tried += [steps[:at] + (steps[at + 1], steps[at]) + steps[at + 2:] for at in range(len(steps) - 1)]
            tried += [steps[:at] + (("spare", high),) + steps[at:] for at in range(len(steps) + 1)
                      for low, high, _ in flow[1][:3] if low == ()]
            tried += [steps[:at] + ((kind, chance.choice(lots), chance.choice(lots)),) + steps[at:]
                      for at in range(len(steps)) for kind in ("cut", "drop", "join")]
            for value in tried:
                right = steps_plainly(lot, flow, value)
                seen[right] += 1
                self.assertIs(are_steps(lot, flow, value), right, (flow, value))
        self.assertGreater(min(seen.values()), 150)

    def test_are_steps_as_a_judge(self):
        right = [STEPS, (("cut", (1, 2), (0, 1)), ("cut", (0, 2), (1,)), ("join", (0, 1), ABC), ("goal", ABC),
                         ("join", (1,), ABC), ("goal", ABC))]
        wrong = [STEPS[:4], STEPS[::-1], STEPS + STEPS, STEPS + (("goal", ABC),), STEPS + (("spare", ABC),),
                 STEPS + ((),), STEPS + (("spare",),), STEPS[:-1] + (("goal",),), STEPS[:-1] + (("goal", ABC, ABC),),
                 STEPS[:-1], STEPS[:-1] + (("spare", ABC),), STEPS[:-1] + (("gaol", ABC),), STEPS[:-1] + ((None, ABC),),
                 ("goal", ABC), (("cut", (1, 2), (0, 1, 2)),) + STEPS[1:], (("cut", (1, 2), (5,)),) + STEPS[1:],
                 (("cut", (1, 2), (0,), ()),) + STEPS[1:], (("drop", (1, 2), (1, 2)),) + STEPS[1:],
                 (("drop", (1, 2), (0,)),) + STEPS[1:], (("join", (1, 2), ABC),) + STEPS[1:], ((),) + STEPS,
                 (None,) + STEPS, (("cut", (1, 2), None),) + STEPS[1:], (("cut", [1, 2], (0,)),) + STEPS[1:]]
        check_judge(self, lambda value: are_steps(ABC, WEB, value), right, wrong)

    def test_flows_without_goals(self):
        free = ((), (((), (0,), 2), ((0,), (0, 1), 1)), (), ())
        self.assertEqual(steps_of((0, 1), free), ())
        right = [(), (("spare", (0,)),), (("spare", (0,)), ("spare", (0,))), (("join", (0,), (0, 1)),),
                 (("drop", (0,), ()),), (("cut", (0,), (1,)),), (("join", (0,), (0, 1)), ("drop", (0, 1), (1,)),
                                                                 ("spare", (1,)), ("spare", (0,)))]
        wrong = [(("spare", (0,)),) * 3, (("goal", (0,)),), (("spare", (1,)),), (("cut", (0,), (0, 1)),),
                 (("spare", ()),)]
        check_judge(self, lambda value: are_steps((0, 1), free, value), right, wrong)
        # With no goal left to come to, each of these would be taken if it were a step at all.
        wrong = [(step,) for step in (
            ("spare", (0,), ()), ("goal", (0,), ()), ("take", (0,), ()), ("take", (0,)), ("spare", (0,), (0, 1)),
            ("drop", (0,), (0,)), ("drop", (0,), (1,)), ("drop", (0,), (0, 1)), ("drop", (0,)), ("join", (0,)),
            ("join", (0,), (0,)), ("join", (0,), ()), ("join", (0,), (1,)), ("cut", (0,)), ("cut", (0,), ()),
            ("cut", (0,), (0,)), ("cut", (0,), (2,)), ("drop", (0,), (), ()), ("spare", (0,), (), ()), ("spare", (2,)),
        )]
        check_judge(self, lambda value: are_steps((0, 1), free, value), right, wrong)
        check_judge(self, lambda value: are_steps((), NONE, value), [()], [(("spare", ()),), (("goal", ()),)])

    def test_goals_of_several_lots(self):
        flow = ((((0,), 1), ((0, 1), 1)), (((), (0,), 1), ((), (0, 1), 1)), (), ())
        right = [(("goal", (0,)), ("goal", (0, 1))), (("goal", (0, 1)), ("goal", (0,)))]
        wrong = [(("goal", (0,)),), (("goal", (0,)), ("goal", (0,))), (("drop", (0, 1), (0,)), ("goal", (0,)),
                                                                       ("goal", (0,)))]
        check_judge(self, lambda value: are_steps((0, 1), flow, value), right, wrong)

    def test_two_hundred_counts_and_one_more(self):
        self.assertEqual(flows.MOST_COUNTS, 200)
        for n in (100, 101):
            flow = ((((0,), n),), (((), (0, 1), n),), (), (((0,), (0, 1), n),))
            if n == 100:
                self.assertEqual(len(steps_of((0, 1), flow)), 200)
            else:
                refused(self, TooMany, steps_of, ((0, 1), flow), 200)
                steps = (("drop", (0, 1), (0,)), ("goal", (0,))) * n
                self.assertIs(are_steps((0, 1), flow, steps), True)
                self.assertIs(are_steps((0, 1), flow, steps[:-1]), False)
        lone = ((), (((), (0,), 201),), (), ())
        refused(self, TooMany, steps_of, ((0,), lone), 200)
        self.assertEqual(steps_of((0,), ((), (((), (0,), 200),), (), ())), ())
        crossings = ((((0, 1), 67),), (((), (0,), 67), ((), (1,), 67)), (((0,), (1,), 67),), ())
        refused(self, TooMany, steps_of, ((0, 1), crossings), 200)


class WithoutTest(unittest.TestCase):
    def check(self, lot, flow, some):
        before = shown(flow)
        told = without(lot, flow, some)
        self.assertEqual(shown(flow), before)
        self.assertTrue(without_plainly(lot, flow, some, told), (flow, some, told))
        self.assertIs(is_without(lot, flow, some, told), True)

    def test_without_each_term(self):
        """[10.5]"""
        seen = 0
        for lot, flow in FLOWS + list(drawn_flows(104, 60, 10 ** 5)):
            for low, high, _ in flow[1]:
                if low == ():
                    seen += 1
                    self.check(lot, flow, high)
        self.assertGreater(seen, 500)

    def test_rings_with_counts_of_nine_digits(self):
        """[10.5]: a lack that is led in a ring is not led on unit by unit."""
        n = GREATEST
        ring = ((((0,), n),), (((), (0, 1), n),), (((0, 1), (0, 2), n),), (((0, 2), ABC, n),))
        self.assertTrue(flows_plainly(ABC, ring))
        self.check(ABC, ring, (0, 1))
        up = ((((0, 1, 2), 1),), (((), (0,), 1), ((0,), (0, 1), n), ((0, 1), ABC, 1)), (), (((0,), (0, 1), n - 1),))
        self.assertTrue(flows_plainly(ABC, up))
        self.check(ABC, up, (0,))
        spare = ((((0, 1, 2), 1),), (((), (0, 1), n), ((0, 1), ABC, n)), (), (((0, 1), ABC, n - 1),))
        self.assertTrue(flows_plainly(ABC, spare))
        self.check(ABC, spare, (0, 1))
        # Here the only way out is the drop that is put in for the crossing.
        self.check(ABC, ((((0,), 1),), (((), (0, 1), 1),), (((0, 1), (0, 2), 1),), (((0, 2), ABC, 1),)), (0, 1))
        plain = ((), (((), (0,), n),), (((0,), (1,), n),), (((1,), (0, 1), n),))
        self.assertTrue(flows_plainly((0, 1), plain))
        self.check((0, 1), plain, (0,))

    def test_is_without_as_a_judge(self):
        other = ((((0, 1, 2), 1),), (((), (0, 2), 1), ((), (1, 2), 1)), (((0, 2), (1, 2), 1),), ())
        right = [other, ((((0, 1, 2), 1),), (((), (0, 2), 1), ((), (1, 2), 1)), (((0,), (1, 2), 1),),
                         (((0,), (0, 2), 1),))]
        wrong = [WEB, NONE, ((),) + other[1:], ((((0, 1, 2), 2),),) + other[1:], change(other, (1, 0, 2), 2),
                 change(other, (1,), (((), (0, 1), 1),) + other[1][1:]), change(other, (0, 0), ((0, 2), 1)),
                 change(other, (2,), ()), change(other, (0, 0, 1), HUGE), other[:3], change(other, (1, 0, 2), HUGE)]
        for value in right + wrong:
            if value not in wrong[7:]:
                self.assertIs(without_plainly(ABC, WEB, (0, 1), value), value in right)
        check_judge(self, lambda value: is_without(ABC, WEB, (0, 1), value), right, wrong)

    def test_judged_with_great_counts_of_what_is_free(self):
        """[10.5]: crossings and drops can be any, also of great length, if the terms bear them."""
        flow = ((((0,), 1),), (((), (0,), 2), ((), (0, 1), 2)), (), ())
        right = [((((0,), 1),), (((), (0,), 1), ((), (0, 1), 2)), (), ()), ((), (((), (0,), 1),), (), ()), NONE,
                 ((((0,), 1),), (((), (0, 1), 1),), (), (((0,), (0, 1), 1),)),
                 ((), (((), (0, 1), 1),), (), (((), (0, 1), 1),)),
                 ((), (((), (0,), 1),), (((0,), (1,), HUGE),), (((0,), (0, 1), HUGE - 1), ((1,), (0, 1), HUGE)))]
        right = [value for value in right if flows_plainly((0, 1), value)]
        self.assertEqual(len(right), 5)
        wrong = [flow, ((((0,), 2),), (((), (0,), 1), ((), (0, 1), 1)), (), (((0,), (0, 1), 1),)),
                 ((((1,), 1),), (((), (0, 1), 1),), (), (((1,), (0, 1), 1),)),
                 ((((0,), 1),), (((), (0,), 2),), (), ())]
        check_judge(self, lambda value: is_without((0, 1), flow, (0,), value), right, wrong)


class WrongArgumentsTest(unittest.TestCase):
    LOT = (InvalidLot, WRONG_LOTS)
    FLOW = (InvalidFlow, wrong_flows((0, 1)))
    RIGHT = ((((0, 1), 1),), (((), (0, 1), GREATEST),), (), ())

    def test_lots_and_flows(self):
        for call in (steps_of, weight_of):
            right = ((0, 1), ((((0, 1), 1),), (((), (0, 1), 2),), (), ()))
            check_wrongs(self, call, right, ((self.LOT,), (self.FLOW,)))
        for value in (NONE, None, ((((0, 1), LONG),), (((), (0, 1), LONG),), (), ())):
            check_wrongs(self, is_flow, ((0, 1), value), ((self.LOT,), ()))
        for value in ((), None):
            check_wrongs(self, are_steps, ((0, 1), self.RIGHT, value), ((self.LOT,), (self.FLOW,), ()))

    def test_lesser_lots_numbers_and_second_flows(self):
        some = (InvalidLot, WRONG_LOTS + ((), (2,), (0, 2), (0, 1, 2)))
        check_wrongs(self, inflow, ((0, 1), self.RIGHT, (0,)), ((self.LOT,), (self.FLOW,), (some,)))
        number = (InvalidNumber, wrong_numbers(1))
        check_wrongs(self, scaled_flow, ((0, 1), self.RIGHT, GREATEST), ((self.LOT,), (self.FLOW,), (number,)))
        check_wrongs(self, flow_sum, ((0, 1), self.RIGHT, self.RIGHT), ((self.LOT,), (self.FLOW,), (self.FLOW,)))

    def test_terms_that_are_taken_off(self):
        some = ((InvalidLot, WRONG_LOTS), (InvalidOperation, ((), (0,), (1,), (2,), (0, 5), (0, 1, 2, 3, 4, 5))))
        check_wrongs(self, without, ((0, 1), self.RIGHT, (0, 1)), ((self.LOT,), (self.FLOW,), some))
        for value in (NONE, None):
            check_wrongs(self, is_without, ((0, 1), self.RIGHT, (0, 1), value), ((self.LOT,), (self.FLOW,), some, ()))
        upper = ((), (((), (0,), 1), ((0,), (0, 1), 1)), (), ())
        refused(self, InvalidOperation, without, ((0, 1), upper, (0, 1)))
        self.assertIs(is_without((0, 1), upper, (0,), NONE), True)

    def test_counts_of_ten_digits(self):
        flow = ((), (((), (0,), LONG),), (), ())
        self.assertIs(is_flow((0,), flow), True)
        refused(self, InvalidFlow, weight_of, ((0,), flow))
        self.assertEqual(inflow((0,), ((), (((), (0,), GREATEST),), (), ()), (0,)), GREATEST)


class NotTrueTest(unittest.TestCase):
    """[10.6]"""

    def test_a_flow_without_a_crossing_can_be_one(self):
        flow = ((), (((), (0,), 1), ((), (1,), 1)), (((0,), (1,), 1),), ())
        self.assertEqual((is_flow((0, 1), flow), is_flow((0, 1), change(flow, (2,), ()))), (True, True))

    def test_steps_need_not_use_all_terms(self):
        flow = ((((0,), 1),), (((), (0,), 2), ((0,), (0, 1), 1)), (), ())
        self.assertIs(are_steps((0, 1), flow, (("goal", (0,)),)), True)

    def test_no_goal_need_be_lost_though_nothing_was_over(self):
        flow = ((((0,), 1),), (((), (0,), 1), ((), (1,), 1)), (((0,), (1,), 1),), (((0,), (0, 1), 1),))
        self.assertEqual(inflow((0, 1), flow, (1,)), 0)
        kept = ((((0,), 1),), (((), (0,), 1),), (), ())
        self.assertIs(is_without((0, 1), flow, (1,), kept), True)
        self.assertEqual(weight_of((0, 1), kept), weight_of((0, 1), flow))


if __name__ == "__main__":
    unittest.main()
