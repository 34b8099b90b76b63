"""The whole program: the main statements [0.13] to [0.16], and what each stage tells led to claims and papers."""

import random
import unittest
from fractions import Fraction
from itertools import combinations, permutations

from crestjoin.change.kept import Kept
from crestjoin.cover.covers import cover_answer, cover_or_packing, exponents_of, least_whole
from crestjoin.exact.linear import linear_answer
from crestjoin.flow.plans import log_answer, log_sizes, plan_bound, run
from crestjoin.flow.rules import does_hold, rule_bound, rule_run
from crestjoin.judge.answers import answered
from crestjoin.judge.judge import takes
from crestjoin.letter.search import searched
from crestjoin.rank.degrees import exact_told, keeps, least_bound
from crestjoin.rank.papers import inequality_answer
from crestjoin.reach.made import is_reached, made_table, reaching, step_vectors, vector_rank
from crestjoin.table.joins import Question, answer
from crestjoin.table.tables import Table
from crestjoin.tree.several import are_several, choices, several_tables, several_truth
from crestjoin.tree.webs import fold_answer
from crestjoin.use.texts import flow_text, question_text, read_flow, read_question, read_told, told_text
from crestjoin.within.maps import within_answer
from tests.claims import drawn_total, opposed, parts_of, shows
from tests.folds import some_webs
from tests.runs import WEBS, degree_at, skewed_table
from tests.support import all_lots, plain_answer, random_question
from tests.test_bags import WHEEL, drawn_told
from tests.test_maps import drawn_pairs
from tests.test_several import BOTH, drawn_wheels, least_flows

ABC = (0, 1, 2)


def just_below(bound):
    """A bound that is less, by as little as claims can tell; None below 0."""
    p, D = bound
    times = 1000 // D
    return (p * times - 1, D * times) if 0 < p * times <= 10000 else None


class ClaimsTest(unittest.TestCase):
    """What each stage tells, led to a claim, has a paper that the judge takes, at the very bound, and at none less."""

    def check(self, claim, paper):
        self.assertIs(takes(claim, paper), True)
        self.assertIs(shows(claim, paper), True)
        self.assertIs(takes(opposed(claim), paper), False)
        self.assertEqual(answered(opposed(claim))[0], claim)

    def test_told_degrees(self):
        """[9.1] to [9.5], [13.2]"""
        chance = random.Random(301)
        seen = {"least": 0, "endless": 0}
        for lot in ((2,), (0, 1), ABC, (0, 2, 3, 5), (0, 1, 2, 3, 4)) * 7:
            told = drawn_told(chance, lot, 7)
            found = least_bound(lot, told)
            self.assertEqual(found[:2], rule_bound(lot, (lot,), told)[:2] if found[0] == "least" else found)
            seen[found[0]] += 1
            if found[0] == "endless":
                for p in (0, 5, 10000):
                    high = {some: (p + 1) * number for some, number in found[1].items()}
                    self.check(("above", lot, told, p, 1), (1, high))
                continue
            _, (p, D), flow, s, rank = found
            self.check(("below", lot, told, p, D), flow)
            self.assertIs(takes(("above", lot, told, p, D), (s, rank)), False)
            less = just_below((p, D))
            if less is not None:
                self.check(("above", lot, told) + less, (s, rank))
                self.assertIs(takes(("below", lot, told) + less, flow), False)
        self.assertGreater(min(seen.values()), 4)

    def test_sums_and_covers(self):
        """[8.1] to [8.4], [6.1] to [6.4]"""
        chance = random.Random(302)
        for lot in ((0, 1), ABC, (1, 2, 3, 4)) * 8:
            total = drawn_total(chance, lot)
            told = inequality_answer(lot, total)
            self.check((told[0], lot, total), told[1])
        for lots in some_webs(303, 40):
            exponents = tuple(chance.randint(0, 20) for _ in lots)
            _, bound, cover, packing = cover_answer(lots, exponents)
            self.check(("cover", lots, exponents) + bound, cover)
            self.assertEqual(cover_or_packing(lots, exponents, *bound)[0], "cover")
            less = just_below(bound)
            if less is not None:
                self.check(("packing", lots, exponents) + less, packing)
                self.assertEqual(cover_or_packing(lots, exponents, *less)[0], "packing")

    def test_programs(self):
        """[5.2]"""
        chance = random.Random(304)
        seen = {"least": 0, "none": 0, "endless": 0}
        for _ in range(150):
            many, few = chance.randint(0, 4), chance.randint(0, 4)
            rows = tuple(tuple(chance.randint(-2, 3) for _ in range(few)) for _ in range(many))
            sides, costs = tuple(chance.randint(-3, 3) for _ in range(many)), tuple(chance.randint(-1, 3) for _ in range(few))
            told = linear_answer(rows, sides, costs)
            seen[told[0]] += 1
            if told[0] == "none":
                self.check(("more", rows, sides, costs, 10000, 1), told)
            elif told[0] == "endless":
                (E, x), way = told[1:]
                far = tuple(10 ** 7 * E * step + number for number, step in zip(x, way))
                self.check(("at most", rows, sides, costs, -10000, 1), (E, far))
            else:
                value = Fraction(sum(c * n for c, n in zip(costs, told[1][1])), told[1][0])
                p, D = value.numerator, value.denominator
                self.check(("at most", rows, sides, costs, p, D), told[1])
                self.check(("more", rows, sides, costs, p * (1000 // D) - 1, D * (1000 // D)), ("prices", told[2]))
        self.assertGreater(min(seen.values()), 15)

    def test_webs_and_rules(self):
        """[16.2], [19.2]"""
        for lots in some_webs(305, 40):
            told = fold_answer(lots)
            self.check((told[0], lots), told[1])
        for one, other in drawn_pairs(306, 60):
            name, paper = within_answer(one, other)
            self.check(({"map": "within", "tables": "beyond"}[name], one, other), paper)

    def test_questions(self):
        """[6.5], [9.2]: the bound of exact degrees is a paper of few rows, the answer's rows one of many."""
        chance = random.Random(307)
        seen = {True: 0, False: 0}
        for letters in ((0, 1), ABC, (0, 1, 3, 4)) * 8:
            question = random_question(chance, letters, (0, 1, 2), 3)
            rows = plain_answer(question, (0, 1, 2))
            pairs = tuple((low, part.lot) for part in question.parts for low in all_lots(part.lot) if low != part.lot)
            told = exact_told(question, pairs[:20])
            found = least_bound(letters, told)
            if found[0] == "endless":
                continue
            (p, D), flow = found[1:3]
            few = ("few", letters, parts_of(question), p, D)
            self.assertIs(takes(few, (told, flow)), True)
            self.assertIs(shows(few, (told, flow)), True)
            self.assertIs(takes(opposed(few), rows), False)
            self.assertLessEqual(len(rows) ** D, 2 ** p)
            for k in range(8):
                many = ("many", letters, parts_of(question), k, 1)
                seen[len(rows) > 2 ** k] += 1
                self.assertIs(takes(many, rows), len(rows) > 2 ** k)
                if len(rows) > 2 ** k:
                    self.assertIs(takes(opposed(many), (told, flow)), False)
        self.assertGreater(min(seen.values()), 20)


class PlansTest(unittest.TestCase):
    def test_papers_are_plans_while_tables_change(self):
        """[0.13], [12.3]: the kept answer beside the run that is led from the least flow of its exact degrees."""
        chance = random.Random(308)
        seen = 0
        for web in WEBS[:6] + WEBS[7:]:
            lot = tuple(sorted({letter for some in web for letter in some}))
            if len(lot) > 5:
                continue
            many, numbers = chance.choice(((8, 4), (20, 6)))
            kept = Kept(Question(lot, tuple(skewed_table(chance, some, many, numbers) for some in web)))
            pairs = tuple(((), some) for some in web) + tuple((some[:1], some) for some in web if len(some) > 1)
            for _ in range(6):
                index = chance.randrange(len(web))
                row = tuple(chance.randrange(numbers) for _ in web[index])
                chance.choice((kept.put, kept.take, lambda *_: kept.changes and kept.undo()))(index, row)
                question = kept.question
                told = exact_told(question, pairs)
                for (low, high), (_, _, k) in zip(pairs, told):
                    degrees = [degree_at(part.lot, part.rows, low, high) for part in question.parts
                               if set(high) <= set(part.lot)]
                    self.assertEqual(k, max(min(degrees) - 1, 0).bit_length())
                flow = least_bound(lot, told)[2]
                p, D = plan_bound(question, told, flow)
                log = run(question, told, flow)
                self.assertEqual(log_answer(question, told, flow, log), kept.answer)
                self.assertEqual(kept.answer, answer(question))
                self.assertTrue(all(size ** D <= 2 ** p for size in log_sizes(question, told, flow, log)))
                self.assertLessEqual(len(kept) ** D, 2 ** p)
                self.assertIs(takes(("few", lot, parts_of(question), p, D), (told, flow)), True)
                log, tables = rule_run(question, told, flow)
                self.assertIs(does_hold(question, tables), True)
                seen += len(kept) > 0
        self.assertGreater(seen, 15)

    def test_plans_by_texts(self):
        """What is written and read leads the same run."""
        chance = random.Random(309)
        question = Question(ABC, tuple(skewed_table(chance, some, 12, 5) for some in combinations(ABC, 2)))
        told = exact_told(question, tuple(((), some) for some in question.lots))
        flow = least_bound(ABC, told)[2]
        again = (read_question(question_text(question)), read_told(ABC, told_text(ABC, told)),
                 read_flow(ABC, flow_text(ABC, flow)))
        self.assertEqual(again, (question, told, flow))
        self.assertEqual(run(*again), run(question, told, flow))

    def test_bounds_that_are_reached(self):
        """[14.5]: the rank, the least bound, the made table and the answer's rows."""
        chance = random.Random(310)
        reached = 0
        for lot, web in ((ABC, tuple(combinations(ABC, 2))), (ABC, ((0, 1), (1, 2))), ((0, 1, 2, 3), WHEEL),
                         ((0, 1, 2, 3), tuple(combinations((0, 1, 2, 3), 3)))):
            for at in range(12):
                if at % 2:
                    vectors = tuple(tuple(chance.randrange(16) for _ in range(chance.randint(0, 2))) for _ in lot)
                else:
                    lots = chance.sample([some for some in all_lots(lot) if some], 3)
                    vectors = step_vectors(lot, {some: chance.randint(0, 2) for some in lots})
                rank = vector_rank(lot, vectors)
                question = reaching(lot, web, vectors)
                told = tuple((low, some, rank[some] - rank[low]) for some in web for low in all_lots(some) if low != some)[:20]
                self.assertEqual(keeps(question, told), (True,) * len(told))
                table, found = made_table(lot, vectors), answer(question)
                self.assertTrue(all(row in found for row in table.rows))
                self.assertEqual(len(table), 2 ** rank[lot])
                _, (p, D), flow, s, best = least_bound(lot, told)
                self.assertLessEqual(D * rank[lot], p)
                claim = ("few", lot, parts_of(question), p, D)
                self.assertIs(takes(claim, (told, flow)), True)
                self.assertEqual(is_reached(lot, told, vectors, p, D), D * rank[lot] == p)
                if is_reached(lot, told, vectors, p, D):
                    reached += 1
                    self.assertEqual(len(found), 2 ** rank[lot])
                    self.check_no_less(lot, told, rank, found, parts_of(question), (p, D))
        self.assertGreater(reached, 15)

    def check_no_less(self, lot, told, rank, found, parts, bound):
        # The rank of the vectors is itself a paper that no lesser bound can be shown, the rows that none is true.
        less = just_below(bound)
        if less is not None:
            self.assertIs(takes(("above", lot, told) + less, (1, rank)), True)
            self.assertEqual(answered(("below", lot, told) + less)[0][0], "above")
            if less[0] * bound[1] > (bound[0] - bound[1]) * less[1]:
                self.assertIs(takes(("many", lot, parts) + less, found.rows), True)

    def test_several_trees_are_told_by_plans(self):
        """[18.5]: the kept answer has rows exactly if some tree tells so."""
        seen = {True: 0, False: 0}
        for question, told in drawn_wheels(311, 25):
            kept = Kept(question)
            value = several_tables(kept.question, told, BOTH, least_flows(question, told, BOTH))
            self.assertIs(are_several(question, BOTH, value), True)
            self.assertEqual(len(value), len(choices(WHEEL, BOTH)))
            self.assertIs(several_truth(question, BOTH, value), len(kept) > 0)
            seen[len(kept) > 0] += 1
        self.assertGreater(min(seen.values()), 5)


class LetterTest(unittest.TestCase):
    def test_letter_by_letter(self):
        """[0.15]: at each letter of each order no more is looked at than the least cover's product."""
        chance = random.Random(312)
        for letters in ((0, 1), ABC, (0, 1, 3, 4)) * 6:
            question = random_question(chance, letters, (0, 1, 2), 3)
            (p, D), (top, weights) = cover_answer(question.lots, exponents_of(question.sizes))[1:3]
            whole = 1
            for size, weight in zip(question.sizes, weights):
                whole *= size ** weight
            for order in permutations(letters):
                for looks in searched(question, order)[1]:
                    self.assertLessEqual(looks ** top, whole)
                    self.assertLessEqual(looks ** D, 2 ** p)


class NotTrueTest(unittest.TestCase):
    """[0.16]"""

    def test_the_least_bound_need_not_be_come_to_by_any_tables(self):
        """Three parts of two rows: the bound is 2 to the power 3 / 2, and no number of rows is it."""
        told = tuple(((), some, 1) for some in combinations(ABC, 2))
        (p, D), flow = least_bound(ABC, told)[1:3]
        self.assertEqual((p, D), (3, 2))
        self.assertEqual([number for number in range(5) if number ** D == 2 ** p], [])
        most = 0
        rows = [(n, m) for n in range(2) for m in range(2)]
        for one in combinations(rows, 2):
            for other in combinations(rows, 2):
                for third in combinations(rows, 2):
                    question = Question(ABC, tuple(Table(lot, part) for lot, part in zip(combinations(ABC, 2),
                                                                                         (one, other, third))))
                    most = max(most, len(answer(question)))
        self.assertEqual(most, 2)

    def test_whole_covers_need_not_be_as_good_as_others(self):
        ring = tuple(combinations(ABC, 2))
        self.assertEqual((least_whole(ring, (2, 2, 2))[0], cover_answer(ring, (2, 2, 2))[1]), (4, (3, 1)))

    def test_the_widest_part_need_not_be_looked_at_first(self):
        wide = Table((0, 1), tuple((n, m) for n in range(8) for m in range(4)))
        question = Question(ABC, (wide, Table((1, 2), ((0, 0),))))
        first, later = searched(question, (0, 1, 2))[1], searched(question, (2, 1, 0))[1]
        self.assertLess(sum(later), sum(first))
        self.assertEqual((first, later), ((8, 8, 8), (1, 1, 8)))


if __name__ == "__main__":
    unittest.main()
