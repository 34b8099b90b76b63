"""Claims answered, each with a paper [21.3], [0.14]: crestjoin.judge.answers."""

import random
import unittest
from fractions import Fraction
from itertools import combinations

from crestjoin.errors import InvalidClaim, Refused, TooMany
from crestjoin.exact.linear import corners
from crestjoin.judge.answers import answered
from crestjoin.judge.judge import takes
from crestjoin.table.joins import Question
from crestjoin.table.tables import Table
from tests.claims import (
    ABC, OPPOSITE, RIGHT_CLAIMS, RING, ROAD, ROWS, SIDES, STEP, WRONG_CLAIMS, drawn_total, opposed, parts_of, shows,
)
from tests.folds import SIX, some_webs
from tests.support import (
    GREATEST, HUGE, LONGEST, check_wrongs, plain_answer, random_question, random_table, refused, shown,
)
from tests.test_maps import drawn_pairs
from tests.test_rules import drawn_rules


def drawn_programs(chance, times):
    for _ in range(times):
        many, few = chance.randint(0, 4), chance.randint(0, 3)
        most = chance.choice((1, 3, GREATEST, HUGE))
        rows = tuple(tuple(chance.randint(-most, most) for _ in range(few)) for _ in range(many))
        costs = tuple(chance.randint(-1 if chance.random() < 0.3 else 0, 4) for _ in range(few))
        yield rows, tuple(chance.randint(-most, most) for _ in range(many)), costs


def drawn_claims(seed):
    """Claims of each kind, those about bounds at and about the least one that some program tells."""
    chance = random.Random(seed)
    for lot, _, told in drawn_rules(seed, 40):
        for p, D in ((chance.randint(0, 60), chance.randint(1, 4)), (0, 1), (10000, 1)):
            yield ("below", lot, told, p, D)
    for lot in ((2,), (0, 1), ABC, (0, 2, 3, 5), (0, 1, 2, 3, 4)):
        for _ in range(14):
            total = drawn_total(chance, lot)
            yield ("holds", lot, total)
            yield ("holds", lot, {some: HUGE * n for some, n in total.items()})
    for lots in some_webs(seed, 40):
        exponents = tuple(chance.randint(0, chance.choice((2, 20))) for _ in lots)
        for p, D in ((chance.randint(0, 30), chance.randint(1, 5)), (0, 1), (10000, 1)):
            yield ("cover", lots, exponents, p, D)
        yield ("folds", lots)
        yield ("folds", lots + ((0, 3), (3, 5), (0, 5)))
    for rows, sides, costs in drawn_programs(chance, 120):
        for p, D in ((chance.randint(-12, 12), chance.randint(1, 5)), (10000, 1), (-10000, 1000)):
            yield ("at most", rows, sides, costs, p, D)
    for one, other in drawn_pairs(seed, 60):
        yield ("within", one, other)


class AnswerTest(unittest.TestCase):
    def check(self, claim, told):
        """Just one of both is told, with a paper that the test itself adds up; the other one has it not."""
        name = told[0][0]
        self.assertIn(name, (claim[0], OPPOSITE[claim[0]]))
        self.assertEqual(told[0], (name,) + claim[1:])
        self.assertIs(shows(told[0], told[1]), True)
        self.assertIs(takes(told[0], told[1]), True)
        self.assertIs(takes(opposed(told[0]), told[1]), False)

    def test_one_of_both(self):
        seen = {}
        for claim in drawn_claims(213):
            before = shown(claim)
            told = answered(claim)
            self.check(claim, told)
            other = answered(opposed(claim))
            self.assertEqual(shown(other[0]), shown(told[0]))
            self.assertIs(takes(told[0], other[1]), True)
            self.assertEqual(shown(claim), before)
            seen[told[0][0]] = seen.get(told[0][0], 0) + 1
        self.assertEqual(sorted(seen), sorted(name for name in OPPOSITE if name not in ("few", "many")))
        self.assertGreater(min(seen.values()), 12, seen)

    def test_claims_that_are_told_as_right(self):
        for claim in RIGHT_CLAIMS:
            if claim[0] != "few":
                self.check(claim, answered(claim))

    def test_at_the_bound_and_just_below_it(self):
        """[21.3]"""
        for p, D, name in ((6, 1, "below"), (12, 2, "below"), (11, 2, "above"), (5999, 1000, "above"), (6000, 1000, "below")):
            self.assertEqual(answered(("above", ABC, SIDES, p, D))[0][0], name)
        for p, D, name in ((3, 1, "cover"), (2999, 1000, "packing"), (10000, 1, "cover"), (0, 1, "packing")):
            self.assertEqual(answered(("packing", RING, (2, 2, 2), p, D))[0][0], name)
        for p, D, name in ((3, 2, "at most"), (1499, 1000, "more"), (1, 1, "more"), (-10000, 1, "more")):
            self.assertEqual(answered(("at most", ((2,),), (3,), (1,), p, D))[0][0], name)
        for p, D, name in ((-5, 1, "at most"), (-5001, 1000, "more"), (-4999, 1000, "at most")):
            self.assertEqual(answered(("at most", ((-1,),), (-5,), (-1,), p, D))[0][0], name)

    def test_programs_by_their_corners(self):
        """Least costs by all corners, where costs are from 0 on."""
        chance = random.Random(214)
        for _ in range(60):
            rows = tuple(tuple(chance.randint(-2, 3) for _ in range(3)) for _ in range(3))
            sides, costs = tuple(chance.randint(-2, 3) for _ in range(3)), tuple(chance.randint(0, 3) for _ in range(3))
            values = [Fraction(sum(c * n for c, n in zip(costs, x)), E) for E, x in corners(rows, sides, 3)]
            for p, D in ((chance.randint(0, 9), chance.randint(1, 4)), (10000, 1)):
                told = answered(("at most", rows, sides, costs, p, D))
                self.assertEqual(told[0][0] == "at most", values != [] and min(values) <= Fraction(p, D))
            if values and min(values).denominator <= 1000:
                p, D = min(values).numerator, min(values).denominator
                self.assertEqual(answered(("more", rows, sides, costs, p, D))[0][0], "at most")
                self.assertEqual(answered(("more", rows, sides, costs, 100 * p - 1, 100 * D) if D <= 10 else
                                          ("more", rows, sides, costs, p - 1, D))[0][0], "more")

    def test_endless_programs(self):
        """Costs that fall below all bounds are led down as far as p tells."""
        for p, D in ((10000, 1), (0, 1), (-1, 1000), (-10000, 1)):
            for rows, sides, costs in ((((1, -1),), (0,), (-1, 0)), ((), (), (-3,)), (((HUGE, 0),), (1,), (5, -1))):
                told = answered(("more", rows, sides, costs, p, D))
                self.assertEqual(told[0][0], "at most")
                self.check(("more", rows, sides, costs, p, D), told)
        told = answered(("at most", ((1,), (-1,)), (3, -2), (-1,), 0, 1))
        self.assertEqual((told[0][0], told[1][0]), ("more", "none"))

    def test_great_programs(self):
        chance = random.Random(215)
        for most in (3, GREATEST, LONGEST):
            rows = tuple(tuple(chance.randint(-most // 3, most) for _ in range(12)) for _ in range(24))
            claim = ("at most", rows, tuple(chance.randint(-most, most) for _ in range(24)), (1,) * 12, 1, 3)
            self.check(claim, answered(claim))

    def test_great_covers_sums_and_webs(self):
        twelve = tuple(combinations(SIX, 3))[:12]
        for p in (0, 19, 20, 40):
            claim = ("cover", twelve, tuple(range(9, 21)), p, 1)
            self.check(claim, answered(claim))
        five = (0, 1, 2, 3, 4)
        cover = {some: HUGE for some in combinations(five, 4)}
        for by in (4, 5):
            claim = ("holds", five, {**cover, five: -by * HUGE - by + 4})
            told = answered(claim)
            self.check(claim, told)
            self.assertEqual(told[0][0], "holds" if by == 4 else "fails")
        told = tuple(((), some, 3 + at) for at, some in enumerate(combinations(five, 2))) + (((0,), five, 9),) * 10
        for p, D in ((10000, 1000), (3, 1), (10000, 1)):
            claim = ("below", five, told, p, D)
            self.check(claim, answered(claim))

    def test_what_is_answered_shares_nothing(self):
        """[0.1], [0.2]"""
        claim = ("fails", ABC, {(1,): 2, (0, 1): -1})
        told = answered(claim)
        self.assertEqual(list(told[0][2]), [(0, 1), (1,)])
        told[0][2].clear()
        self.assertEqual(claim, ("fails", ABC, {(1,): 2, (0, 1): -1}))


class FewTest(unittest.TestCase):
    def test_few_many_or_open(self):
        """[21.3]: by the plain answer, and by the cover bound of the parts' least k."""
        chance = random.Random(216)
        seen = {"few": 0, "many": 0, "open": 0}
        for letters in ((1,), (0, 1), ABC, (0, 2, 3, 5), (0, 1, 2, 3, 4)):
            for at in range(14):
                question = random_question(chance, letters, (0, 1, 2) if len(letters) < 5 else (0, 1), 1 + at % 4)
                many = len(plain_answer(question, (0, 1, 2)))
                if at % 3 == 0 and letters != (0, 1, 2, 3, 4):
                    question = Question(letters, question.parts + (Table((), ((),)), Table((), ())))
                    many = 0
                for p, D in ((chance.randint(0, 9), chance.randint(1, 3)), (0, 1), (many.bit_length(), 1), (10000, 1)):
                    claim = ("few", letters, parts_of(question), p, D)
                    self.check(claim, many, seen)
        self.assertGreater(min(seen.values()), 10)

    def check(self, claim, many, seen):
        _, lot, parts, p, D = claim
        ks = [(len(rows) - 1).bit_length() if rows else 0 for some, rows in parts if some]
        lots = tuple(some for some, _ in parts if some)
        is_shown = answered(("cover", lots, tuple(ks), p, D))[0][0] == "cover"
        for one in (claim, opposed(claim)):
            if is_shown:
                told = answered(one)
                self.assertEqual(told[0][0], "few")
            elif many ** D <= 2 ** p:
                refused(self, Refused, answered, (one,), ("open",))
                seen["open"] += 1
                continue
            else:
                told = answered(one)
                self.assertEqual(told[0][0], "many")
            seen[told[0][0]] += 1
            self.assertEqual(shown(told[0]), shown((told[0][0],) + claim[1:]))
            self.assertIs(shows(told[0], told[1]), True)
            self.assertIs(takes(told[0], told[1]), True)
            self.assertIs(takes(opposed(told[0]), told[1]), False)

    def test_an_answer_within_the_bound_that_no_sizes_show(self):
        parts = (((0, 1), ((1, 1), (2, 2))), ((1, 2), ((3, 3), (4, 4))))
        refused(self, Refused, answered, (("few", ABC, parts, 1, 1),), ("open",))
        self.assertEqual(answered(("few", ABC, parts, 2, 1))[0][0], "few")
        # The sizes alone do not show it, but a degree does: a paper of the test's own is taken.
        parts = (((0, 1), ROWS), ((1, 2), ((1, 7), (2, 7))))
        refused(self, Refused, answered, (("many", ABC, parts, 2, 1),), ("open",))
        told = (((), (0, 1), 2), ((1,), (1, 2), 0))
        flow = (((ABC, 1),), (((), (0, 1), 1), ((1,), (1, 2), 1)), (((0, 1), (1, 2), 1),), ())
        self.assertIs(takes(("few", ABC, parts, 2, 1), (told, flow)), True)

    def test_numbers_of_any_length(self):
        parts = (((0,), ((-HUGE,), (HUGE,))), ((0, 1), ((-HUGE, 5), (-HUGE, HUGE), (3, 3))))
        told = answered(("few", (0, 1), parts, 1, 2))
        self.assertEqual((told[0][0], sorted(told[1])), ("many", [(-HUGE, 5), (-HUGE, HUGE)]))
        self.assertEqual(answered(("few", (0, 1), parts, 2, 1))[0][0], "few")
        refused(self, Refused, answered, (("few", (0, 1), parts, 1, 1),), ("open",))

    def test_twelve_parts_of_a_thousand_rows(self):
        chance = random.Random(217)
        five = (0, 1, 2, 3, 4)
        lots = tuple(combinations(five, 2)) + ((0, 1, 2), (2, 3, 4))
        parts = parts_of(Question(five, tuple(random_table(chance, some, range(60), 1000) for some in lots)))
        told = answered(("few", five, parts, 20, 1))
        self.assertEqual(told[0][0], "few")
        self.assertIs(shows(*told), True)
        self.assertIs(takes(*told), True)
        refused(self, Refused, answered, (("few", five, parts, 19, 1),), ("open",))
        one = tuple((n,) for n in range(1000))
        for p, D, name in ((10, 1, "few"), (9965, 1000, "many")):
            self.assertEqual(answered(("few", (0,), (((0,), one),) * 12, p, D))[0][0], name)
        refused(self, Refused, answered, (("few", (0,), (((0,), one),) * 12, 9966, 1000),), ("open",))

    def test_a_hundred_thousand_rows_and_more(self):
        one = tuple((n,) for n in range(1000))
        for many in (100, 101):
            parts = (((0,), one), ((1,), one[:many]))
            self.assertEqual(answered(("many", (0, 1), parts, 17, 1))[0][0], "few")
            if many == 100:
                told = answered(("few", (0, 1), parts, 16, 1))
                self.assertEqual((told[0][0], takes(*told)), ("many", True))
            else:
                refused(self, TooMany, answered, (("few", (0, 1), parts, 16, 1),), 100000)


class WrongArgumentsTest(unittest.TestCase):
    def test_wrong_claims(self):
        check_wrongs(self, answered, (("folds", RING),), (((InvalidClaim, WRONG_CLAIMS),),))

    def test_rules_and_webs(self):
        self.assertEqual(answered(("beyond", ROAD, STEP))[0][0], "within")
        self.assertEqual(answered(("within", STEP, ROAD))[0][0], "beyond")
        self.assertEqual(answered(("stuck", ()))[0], ("folds", ()))
        self.assertEqual(answered(("folds", ((0,),))), (("folds", ((0,),)), (None,)))


if __name__ == "__main__":
    unittest.main()
