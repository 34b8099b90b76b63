"""Claims and papers [21.1], [21.2], [21.4]: crestjoin.judge.judge."""

import random
import unittest

from crestjoin.errors import InvalidClaim
from crestjoin.judge.judge import is_claim, opposite, takes
from tests.claims import ABC, OPPOSITE, RIGHT_CLAIMS, RING, ROAD, ROWS, SIDES, STEP, WRONG_CLAIMS, opposed, shows
from tests.support import (
    HUGE, all_lots, check_judge, check_wrongs, drawn_flow, shown, some_ranks,
)

EVEN = (((ABC, 2),), (((), (0, 1), 1), ((), (0, 2), 1), ((), (1, 2), 1)),
        (((0,), (1, 2), 1), ((0, 1), (0, 2), 1)), ())
OTHER = (((ABC, 2),), EVEN[1], (((0, 1), (1, 2), 1), ((0, 2), (1,), 1)), ())
CARDS = dict.fromkeys(all_lots(ABC), 0)
CARDS.update({some: 2 * len(some) for some in all_lots(ABC)})


def scaled(flow, by):
    return tuple(tuple(thing[:-1] + (thing[-1] * by,) for thing in things) for things in flow)


def ranked(by, extra=()):
    return {**{some: by * number for some, number in CARDS.items()}, **dict(extra)}


class ClaimTest(unittest.TestCase):
    def test_is_claim_as_a_judge(self):
        for claim in RIGHT_CLAIMS:
            for one in (claim, opposed(claim)):
                before = shown(one)
                self.assertIs(is_claim(one), True, before[:200])
                self.assertEqual(shown(one), before)
        small = [claim for claim in RIGHT_CLAIMS if len(shown(claim)) < 3000]
        self.assertGreater(len(small), 15)
        check_judge(self, is_claim, small, WRONG_CLAIMS)
        for claim in small:
            for name in OPPOSITE:
                if OPPOSITE[name] != claim[0] and name != claim[0]:
                    self.assertIsInstance(is_claim((name,) + claim[1:]), bool)

    def test_names_do_not_stand_for_one_another(self):
        for claim in RIGHT_CLAIMS:
            for name in ("below", "holds", "at most", "within", "folds"):
                if name not in (claim[0], OPPOSITE[claim[0]]):
                    self.assertIs(is_claim((name,) + claim[1:]), False)

    def test_opposites(self):
        for claim in RIGHT_CLAIMS:
            for one in (claim, opposed(claim)):
                before = shown(one)
                self.assertEqual(shown(opposite(one)), shown(opposed(one)))
                self.assertEqual(opposite(opposite(one)), one)
                self.assertEqual(shown(one), before)

    def test_opposites_share_nothing_and_ascend(self):
        """[0.1], [0.2]"""
        claim = ("holds", ABC, {(1,): 2, (0, 1): -1})
        told = opposite(claim)
        self.assertEqual(list(told[2]), [(0, 1), (1,)])
        told[2].clear()
        self.assertEqual(claim, ("holds", ABC, {(1,): 2, (0, 1): -1}))

    def test_wrong_claims(self):
        wrongs = (InvalidClaim, WRONG_CLAIMS)
        check_wrongs(self, opposite, (("folds", RING),), ((wrongs,),))
        for value in ((None, 0, 0), ABC, None):
            check_wrongs(self, takes, (("folds", RING), value), ((wrongs,), ()))


class PaperTest(unittest.TestCase):
    """[21.2]: papers of the test's own of each kind, and near ones."""

    def judged(self, claim, right, wrong=()):
        for paper in right:
            self.assertIs(shows(claim, paper), True)
            self.assertIs(takes(opposed(claim), paper), False)
        check_judge(self, lambda value: takes(claim, value), right, wrong)

    def test_bounds(self):
        below = [EVEN, OTHER, scaled(EVEN, 3), scaled(OTHER, HUGE)]
        lavish = (((ABC, 1),), (((), (0, 1), 1), ((), (1, 2), 1)), (((0, 1), (1, 2), 1),), ())
        wrong = [lavish, EVEN[:3], EVEN + ((),), (EVEN[0] + (((0,), 1),),) + EVEN[1:], (((ABC, 3),),) + EVEN[1:],
                 ((((0, 1), 2),),) + EVEN[1:], ((),) + EVEN[1:], (EVEN[0], EVEN[1] + (((0,), ABC, 1),)) + EVEN[2:],
                 (EVEN[0], (((), ABC, 2),), (), ()), (1, CARDS), "flow", {0: EVEN}]
        self.judged(("below", ABC, SIDES, 6, 1), below, wrong)
        self.judged(("below", ABC, SIDES, 8, 1), below + [lavish])
        for p, D in ((11, 2), (5, 1), (5999, 1000), (3, 1)):
            claim = ("below", ABC, SIDES, p, D)
            for paper in below + [lavish]:
                self.assertIs(takes(claim, paper), False)
            above = [(1, CARDS), (7, ranked(7)), (HUGE, ranked(HUGE))]
            wrong = [(2, CARDS), (0, CARDS), (1, ranked(2)), (1, CARDS, 0), (1,), CARDS, (-1, CARDS), (1, {ABC: 6}),
                     (1, ranked(1, {(0,): 3}.items())), (1, tuple(CARDS.items())), EVEN, (1, None), ("1", CARDS)]
            self.judged(opposed(claim), above, wrong)
        self.assertIs(takes(("above", ABC, SIDES, 6, 1), (1, CARDS)), False)
        self.assertIs(takes(("below", ABC, SIDES + (((), (0, 1), 3),), 11, 2), EVEN), True)
        step = dict.fromkeys(all_lots(ABC), 9)
        step[()] = 0
        self.judged(("above", ABC, (), 8, 1), [(1, step)], [(1, CARDS)])

    def test_sums(self):
        total = {(0, 1): 1, (0, 2): 1, (1, 2): 1, ABC: -2}
        right = [(1, EVEN[2], ()), (1, OTHER[2], ()), (HUGE, scaled(EVEN, HUGE)[2], ()), (2, scaled(OTHER, 2)[2], ())]
        wrong = [(2, EVEN[2], ()), (0, (), ()), (1, EVEN[2]), (1, EVEN[2], (((), (0,), 1),)), (1, EVEN[2][::-1], ()),
                 (1, EVEN[2][:1], ()), (1, (), EVEN[2]), (1, EVEN[2], (), ()), (1, EVEN[2] + EVEN[2], ()), CARDS,
                 (1, (((1, 2), (0,), 1), EVEN[2][1]), ()), (1, None, ()), ("1", EVEN[2], ())]
        self.judged(("holds", ABC, total), right, wrong)
        self.judged(("holds", ABC, {**{some: HUGE * n for some, n in total.items()}, (0,): 0}), [
            (1, scaled(EVEN, HUGE)[2], ()), (2, scaled(EVEN, 2 * HUGE)[2], ())], [(1, EVEN[2], ())])
        self.judged(("holds", (3,), {}), [(1, (), ()), (HUGE, (), ())], [(1, (), (((), (3,), 1),)), (0, (), ())])
        step = {some: 1 if 0 in some else 0 for some in all_lots(ABC)}
        failing = ("fails", ABC, {(0, 1): 1, (1, 2): 1, ABC: -2})
        wrong = [{some: 1 if 1 in some else 0 for some in step}, {**step, (0,): 2}, {ABC: 1}, (1, EVEN[2], ()),
                 {**step, (): 1}, tuple(step.items()), {some: -n for some, n in step.items()}]
        self.judged(failing, [step, CARDS, {some: HUGE * n for some, n in step.items()}], wrong)
        self.judged(("fails", ABC, {(1,): HUGE, (0,): -1}), [step], [{some: int(some != ()) for some in step}])

    def test_covers(self):
        claim = ("cover", RING, (2, 2, 2), 3, 1)
        right = [(2, (1, 1, 1)), (4, (2, 2, 2)), (2 * HUGE, (HUGE,) * 3)]
        wrong = [(1, (1, 1, 0)), (2, (1, 1, 0)), (2, (1, 1)), (0, (0, 0, 0)), (2, (1, 1, 1), 0), (2, (2, 1, 1)),
                 (2, (3, -1, 1)), (1, {0: 1, 1: 1, 2: 1}), (2, [1, 1, 1]), (-2, (-1, -1, -1))]
        self.judged(claim, right, wrong)
        self.assertIs(takes(("cover", RING, (2, 2, 2), 4, 1), (1, (1, 1, 0))), True)
        for p, D in ((2, 1), (2999, 1000), (0, 1)):
            right = [(1, {0: 1, 1: 1, 2: 1}), (HUGE, dict.fromkeys((2, 1, 0), HUGE))]
            wrong = [(1, {0: 2, 1: 1, 2: 1}), (1, {0: 1, 1: 1}), (1, {0: 1, 1: 1, 2: 1, 3: 0}), (2, (1, 1, 1)),
                     (1, {0: 3, 1: -1, 2: 1}), (1, {0: 0, 1: 0, 2: 0}), (0, {0: 1, 1: 1, 2: 1}), (1, (1, 1, 1))]
            self.judged(("packing", RING, (2, 2, 2), p, D), right, wrong)
            self.assertIs(takes(("cover", RING, (2, 2, 2), p, D), (2, (1, 1, 1))), False)
        self.assertIs(takes(("packing", RING, (2, 2, 2), 3, 1), (1, {0: 1, 1: 1, 2: 1})), False)
        self.judged(("cover", (), (), 0, 1), [(1, ()), (HUGE, ())], [(0, ()), ()])
        self.judged(("cover", ((),), (20,), 0, 1), [(3, (0,))], [(3, (1,)), (3, ())])

    def test_programs(self):
        claim = ("at most", ((2,),), (3,), (1,), 3, 2)
        right = [(2, (3,)), (4, (6,)), (2 * HUGE, (3 * HUGE,))]
        wrong = [(1, (1,)), (1, (2,)), (2, (3, 0)), (2, ()), (0, (0,)), (-2, (-3,)), (2, [3]), (2,), ("prices", (2, (1,)))]
        self.judged(claim, right, wrong)
        right = [("prices", (2, (1,))), ("prices", (2 * HUGE, (HUGE,)))]
        wrong = [("prices", (1, (1,))), ("prices", (3, (1,))), ("prices", (2, (1, 0))), ("prices", (2, (-1,))), (2, (1,)),
                 ("none", (1,)), ("prices", (0, (0,))), ("prices",), ("price", (2, (1,))), ("prices", 2, (1,))]
        self.judged(("more", ((2,),), (3,), (1,), 1, 1), right, wrong)
        self.assertIs(takes(("more", ((2,),), (3,), (1,), 3, 2), ("prices", (2, (1,)))), False)
        # Below 0: the costs fall as far as the one row lets.
        falling = ((-1,),), (-5,), (-1,)
        self.judged(("at most",) + falling + (-5, 1), [(1, (5,)), (3, (15,))], [(1, (4,)), (1, (6,)), (1, (-5,))])
        self.judged(("more",) + falling + (-5001, 1000), [("prices", (1, (1,))), ("prices", (HUGE, (HUGE,)))],
                    [("prices", (1, (0,))), ("prices", (1, (2,)))])
        none = ((1,), (-1,)), (3, -2), (0,)
        self.judged(("more",) + none + (10000, 1), [("none", (1, 1)), ("none", (HUGE, HUGE)), ("none", (2, 2))],
                    [("none", (1, 0)), ("none", (0, 1)), ("none", (0, 0)), ("none", (1,)), ("none", (1, 1, 0)),
                     ("none", [1, 1]), ("none", (-1, -1)), ("prices", (1, (1, 1)))])
        self.judged(("more",) + none + (-1, 1), [("none", (1, 1)), ("prices", (1, (0, 0)))])
        self.judged(("at most", (), (), (), 0, 1), [(1, ()), (HUGE, ())], [(0, ()), (), (1, (0,))])
        self.judged(("more", (), (), (), -1, 1), [("prices", (1, ()))], [("none", ()), ("prices", (0, ()))])
        great = ("at most", ((HUGE,),), (HUGE ** 2,), (1,), 1, 1)
        self.judged(("more",) + great[1:], [("prices", (HUGE, (1,)))], [("prices", (1, (1,)))])

    def test_webs(self):
        twig = ((0, 1), (2, 3), (1, 2))
        self.judged(("folds", twig), [(None, 2, 0), (2, None, 1), (2, 2, None)], [(None, 0, 0), (None, 2), (0, 1, 2), twig])
        self.judged(("folds", ()), [()], [(None,), (0,)])
        self.judged(("folds", ((),)), [(None,)], [(), (0,)])
        self.judged(("stuck", RING), [ABC], [(0, 1), (), (0, 1, 2, 3), (2, 1, 0), (None, 0, 0)])
        self.judged(("stuck", RING + ((3, 4), (4, 5), (3, 5))), [ABC, (3, 4, 5)], [(0, 1, 2, 3, 4, 5)])

    def test_rules(self):
        self.judged(("within", ((), ROAD[1]), ((), STEP[1])), [{0: 0, 1: 1}, {0: 1, 1: 2}, {1: 2, 0: 1}],
                    [{0: 0}, {0: 1, 1: 0}, {0: 0, 1: 1, 2: 2}, {0: 0, 1: HUGE}, (0, 1), {"e": ((0, 1),)}])
        self.judged(("within", ROAD, STEP), [{0: 0, 1: 1}], [{0: 1, 1: 2}])
        self.judged(("beyond", STEP, ROAD), [{"e": ((0, 1),)}, {"e": ((4, 5), (3, 4)), "z": ()}],
                    [{"e": ((0, 0),)}, {}, {"e": ((0, 6),)}, {0: 0, 1: 1}, {"e": [(0, 1)]}, ("tables", {"e": ((0, 1),)})])
        self.judged(("within", ((), ()), ((), ())), [{}], [{0: 0}, None])
        self.judged(("beyond", ((), ()), ((), STEP[1])), [{}, {"f": ((),)}], [{"e": ((2, 3),)}, {"e": (2, 3)}])

    def test_answers(self):
        parts = (((0, 1), ROWS), ((1,), ((1,), (2,), (3,))))
        told = (((), (0, 1), 2),)
        flow = ((((0, 1), 1),), (((), (0, 1), 1),), (), ())
        degrees = (((), (0,), 1), ((0,), (0, 1), 1))
        chain = ((((0, 1), 1),), (((), (0,), 1), ((0,), (0, 1), 1)), (), ())
        right = [(told, flow), (degrees, chain), (told, scaled(flow, HUGE)), (told + degrees, flow), (degrees + told, chain)]
        wrong = [(told,), flow, (told, chain), (degrees, flow), (((), (0, 1), 1), flow), ((((), (0, 1), 1),), flow),
                 (told + (((0,), (0, 1), 0),), flow), (told * 21, flow), (told, EVEN), (list(told), flow), (told, flow, 0),
                 ((((), (0, 1), 21),), flow), ((((), (0, 2), 2),) + told, flow), (flow, told), ROWS,
                 (told, ((((0,), 1),), (((), (0, 1), 1),), (), (((0,), (0, 1), 1),)))]
        self.judged(("few", (0, 1), parts, 2, 1), right, wrong)
        self.assertIs(takes(("few", (0, 1), parts, 19, 10), (told, flow)), False)
        right = [ROWS, ROWS[::-1], ROWS[1:] + ROWS[:1]]
        wrong = [ROWS[:2], ROWS[:2] * 2, ROWS + ROWS[:1], ROWS[:2] + ((1, 3),), ROWS[:2] + ((1, 2, 3),), list(ROWS), (),
                 (0, 1), ROWS[:2] + (None,), ROWS[:2] + ((1, HUGE),), {row: 1 for row in ROWS}, (told, flow), (ROWS,)]
        for p, D in ((1, 1), (3, 2), (158, 100)):
            self.judged(("many", (0, 1), parts, p, D), right, wrong)
        for p, D in ((8, 5), (2, 1), (159, 100)):
            self.assertIs(takes(("many", (0, 1), parts, p, D), ROWS), False)
        long = (((4,), ((-HUGE,), (5,), (HUGE,))), ((4,), ((-HUGE,), (HUGE,))))
        self.judged(("many", (4,), long, 0, 1), [((-HUGE,), (HUGE,)), ((HUGE,), (-HUGE,))],
                    [((-HUGE,),), ((-HUGE,), (5,)), ((-HUGE,), (HUGE + 1,))])
        self.judged(("few", (4,), long, 1, 1), [((((), (4,), 1),), ((((4,), 1),), (((), (4,), 1),), (), ()))],
                    [((((), (4,), 0),), ((((4,), 1),), (((), (4,), 1),), (), ()))])
        self.judged(("many", (0,), (((0,), ((0,), (1,))), ((), ((),))), 0, 1), [((0,), (1,))])
        self.assertIs(takes(("many", (0,), (((0,), ((0,), (1,))), ((), ())), 0, 1), ((0,), (1,))), False)

    def test_papers_that_are_drawn(self):
        """No paper shows what is not so: flows and ranks by chance."""
        chance = random.Random(211)
        seen = {True: 0, False: 0}
        for h in some_ranks(ABC, 212, 150):
            flow = drawn_flow(chance, ABC, 5, 2, ABC)
            told = tuple((low, high, chance.randint(0, 6)) for low, high, _ in flow[1]) + SIDES[:1]
            for p, D in ((chance.randint(0, 12), 1), (chance.randint(0, 40), 3), (0, 1)):
                below = ("below", ABC, told, p, D)
                for claim, paper in ((below, flow), (opposed(below), (1, h)), (opposed(below), (2, h))):
                    right = shows(claim, paper)
                    seen[right] += 1
                    self.assertIs(takes(claim, paper), right)
                    self.assertIs(takes(opposed(claim), paper), False)
        self.assertGreater(min(seen.values()), 60)


class NotTrueTest(unittest.TestCase):
    """[21.4]"""

    def test_a_paper_can_be_taken_for_several_claims(self):
        for p in (6, 7, 100):
            self.assertIs(takes(("below", ABC, SIDES, p, 1), EVEN), True)
        for claim in (("stuck", RING), ("stuck", RING + ((),))):
            self.assertIs(takes(claim, ABC), True)


if __name__ == "__main__":
    unittest.main()
