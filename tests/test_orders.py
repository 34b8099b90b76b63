"""Degrees along an order [0.15], [15.1] to [15.6]: crestjoin.letter.orders."""

import random
import unittest
from fractions import Fraction
from itertools import permutations, product
from math import gcd

from crestjoin.errors import (
    InvalidLot, InvalidOperation, InvalidQuestion, InvalidTold, Refused, TooMany,
)
from crestjoin.letter.orders import (
    are_numbers, are_weights, do_go_along, full_question, is_letter_bound, letter_bound, searched_by,
)
from crestjoin.letter.search import searched
from crestjoin.rank.degrees import exact_told, keeps, least_bound
from crestjoin.table.joins import Question, answer
from crestjoin.table.tables import Table
from tests.support import (
    BOOLS, HUGE, LONG_NUMBERS, OBJECTS, ODD, SOME_QUESTION, SOME_TABLE, WRONG_LOTS, WRONG_QUESTIONS, all_lots,
    check_judge, check_wrongs, part_of, random_question, refused, shown, wrong_told,
)

ABC = (0, 1, 2)
TOLD = (((), (0,), 2), ((0,), (0, 1), 1), ((), (1, 2), 3), ((1,), (1, 2), 1))
WEIGHTS, NUMBERS = (1, (1, 1, 0, 1)), (1, {0: 2, 1: 1, 2: 1})
LOTS = ((3,), (0, 4), ABC, (1, 2, 3, 5), (0, 1, 2, 3, 4), (0, 1, 2, 3, 4, 5))


def drawn_along(chance, order, many):
    """Told degrees that go along an order."""
    told = []
    while len(told) < many:
        low = sorted(letter for letter in order if chance.random() < 0.3)
        ahead = max([order.index(letter) for letter in low], default=-1) + 1
        new = [letter for letter in order[ahead:] if chance.random() < 0.5]
        if new:
            told.append((tuple(low), tuple(sorted(low + new)), chance.randint(0, chance.choice((0, 3, 20)))))
    return tuple(told)


def drawn_orders(seed, times):
    chance = random.Random(seed)
    for at in range(times):
        lot = LOTS[at % len(LOTS)]
        order = tuple(chance.sample(lot, len(lot)))
        yield lot, drawn_along(chance, order, chance.choice((0, 1, 4, 9, 20))), order


def goes_plainly(told, order):
    return all(order.index(elder) < order.index(new) for low, high, _ in told for elder in low
               for new in set(high) - set(low))


def weighs_plainly(lot, told, weights):
    D, w = weights
    return D >= 1 and len(w) == len(told) and min(w, default=0) >= 0 and all(
        sum(n for n, (low, high, _) in zip(w, told) if letter in set(high) - set(low)) >= D for letter in lot)


def numbers_plainly(lot, told, numbers):
    E, y = numbers
    return E >= 1 and sorted(y) == list(lot) and min(y.values()) >= 0 and all(
        sum(y[letter] for letter in set(high) - set(low)) <= E * k for low, high, k in told)


def open_plainly(lot, told):
    return [letter for letter in lot if not any(letter in set(high) - set(low) for low, high, _ in told)]


def begins_plainly(question, order, many):
    """The begun rows of the first letters by trying all rows of small numbers."""
    letters = order[:many]
    numbers = sorted({n for part in question.parts for row in part.rows for n in row})
    found = []
    for row in product(numbers, repeat=many):
        told = dict(zip(letters, row))
        if all(any(all(part_row[part.lot.index(x)] == n for x, n in told.items() if x in part.lot)
                   for part_row in part.rows)
               for part in question.parts):
            found.append(row)
    return found


def looks_plainly(question, told, order):
    """The looks of all letters, from the words of the document."""
    looks = []
    keeping = []
    for low, high, k in told:
        for part in question.parts:
            if set(high) <= set(part.lot) and max(above_plainly(part, low, high), default=0) <= 2 ** k:
                keeping.append(part)
                break
    for place, letter in enumerate(order):
        many = 0
        for row in begins_plainly(question, order, place):
            known = dict(zip(order, row))
            fewest = None
            for (low, high, _), part in zip(told, keeping):
                if letter in high and letter not in low:
                    names = [x for x in high if x in known]
                    next_numbers = {one[part.lot.index(letter)] for one in part.rows
                                    if all(one[part.lot.index(x)] == known[x] for x in names)}
                    fewest = len(next_numbers) if fewest is None else min(fewest, len(next_numbers))
            many += fewest
        looks.append(many)
    return tuple(looks)


def above_plainly(part, low, high):
    above = {}
    for row in part.rows:
        above.setdefault(part_of(part.lot, row, low), set()).add(part_of(part.lot, row, high))
    return [len(some) for some in above.values()]


class AlongTest(unittest.TestCase):
    def test_do_go_along(self):
        """[15.1]: in each order; some told degrees go along some orders only."""
        chance = random.Random(151)
        seen = set()
        for lot in LOTS[:5]:
            pairs = [(low, high) for high in all_lots(lot) for low in all_lots(high) if low != high]
            for _ in range(6):
                told = tuple(chance.choice(pairs) + (1,) for _ in range(chance.randint(0, 3)))
                along = [goes_plainly(told, order) for order in permutations(lot)]
                self.assertEqual([do_go_along(lot, told, order) for order in permutations(lot)], along)
                seen.add((any(along), all(along)))
        self.assertEqual(seen, {(True, True), (True, False), (False, False)})
        self.assertIs(do_go_along((), (), ()), True)
        self.assertIs(do_go_along((3,), (((), (3,), 0),), (3,)), True)
        six = LOTS[-1]
        self.assertIs(do_go_along(six, ((six[:5], six, 0),), six), True)
        self.assertIs(do_go_along(six, ((six[1:], six, 0),), six), False)


class BoundTest(unittest.TestCase):
    def test_either_or(self):
        """[15.2]: weights and numbers with one cost, or a letter that is new to no degree."""
        seen = {"least": 0, "open": 0}
        for lot, told, order in drawn_orders(152, 200):
            value = letter_bound(lot, told, order)
            seen[value[0]] += 1
            self.assertIs(is_letter_bound(lot, told, order, value), True)
            if value[0] == "open":
                self.assertEqual(value[1], open_plainly(lot, told)[0])
                continue
            self.assertEqual(open_plainly(lot, told), [])
            _, (p, D), weights, numbers = value
            self.assertTrue(weighs_plainly(lot, told, weights) and numbers_plainly(lot, told, numbers))
            cost = Fraction(sum(n * k for n, (_, _, k) in zip(weights[1], told)), weights[0])
            self.assertEqual((cost, gcd(p, D)), (Fraction(p, D), 1))
            self.assertEqual(Fraction(sum(numbers[1].values()), numbers[0]), cost)
            self.assertEqual(list(numbers[1]), list(lot))
            # Whatever sequence of letters they go along, it is no less than the least bound of stage 9.
            if len(lot) <= 5:
                least = least_bound(lot, told)
                self.assertEqual(least[0], "least")
                self.assertGreaterEqual(cost, Fraction(*least[1]))
        self.assertGreater(min(seen.values()), 30)

    def test_rings(self):
        ring = tuple(((), some, 3) for some in ((0, 1), (0, 2), (1, 2)))
        self.assertEqual(letter_bound(ABC, ring, (2, 0, 1))[1], (9, 2))
        six = tuple(((), tuple(sorted((n, (n + 1) % 6))), 5) for n in range(6))
        self.assertEqual(letter_bound(LOTS[-1], six, LOTS[-1])[1], (15, 1))
        twenty = tuple(((), some, 20) for some in all_lots(LOTS[-1])[1:] if len(some) == 3)
        self.assertEqual(len(twenty), 20)
        self.assertEqual(letter_bound(LOTS[-1], twenty, LOTS[-1])[1], (40, 1))

    def test_never_below(self):
        """[15.2]: E times the cost is at least D times the sum of all numbers."""
        chance = random.Random(153)
        seen = 0
        for lot, told, _ in drawn_orders(154, 120):
            for _ in range(6):
                weights = (chance.randint(1, 2), tuple(chance.randint(0, 3) for _ in told))
                numbers = (chance.randint(1, 2), {letter: chance.randint(0, 4) for letter in lot})
                right = weighs_plainly(lot, told, weights), numbers_plainly(lot, told, numbers)
                self.assertEqual((are_weights(lot, told, weights), are_numbers(lot, told, numbers)), right)
                if all(right):
                    seen += 1
                    cost = sum(n * k for n, (_, _, k) in zip(weights[1], told))
                    self.assertGreaterEqual(numbers[0] * cost, weights[0] * sum(numbers[1].values()))
        self.assertGreater(seen, 20)

    def test_edges(self):
        self.assertEqual(letter_bound((3,), (((), (3,), 0),), (3,)), ("least", (0, 1), (1, (1,)), (1, {3: 0})))
        self.assertEqual(letter_bound((3,), (), (3,)), ("open", 3))
        self.assertEqual(letter_bound((0, 4), (((), (4,), 1),), (4, 0)), ("open", 0))
        self.assertEqual(letter_bound((0, 4), (((0,), (0, 4), 1),), (0, 4)), ("open", 0))


class JudgeTest(unittest.TestCase):
    def test_are_weights(self):
        right = [WEIGHTS, (1, (1, 0, 1, 0)), (2, (2, 1, 1, 1)), (1, (5, 5, 5, 5)), (HUGE, (HUGE, HUGE, 0, HUGE)),
                 (1, (1, 0, 1, HUGE))]
        wrong = [(1, (1, 1, 0, 0)), (2, (1, 1, 0, 1)), (0, (1, 1, 0, 1)), (-1, (1, 1, 0, 1)), (1, (1, 1, 0)),
                 (1, (1, 1, 0, 1, 1)), (1, (1, 1, -1, 2)), (1, None), (1,), (1, (1, 1, 0, 1), 1), ("1", (1, 1, 0, 1)),
                 (1, (1, 1, None, 1)), ((1, 1, 0, 1), 1), (HUGE + 1, (HUGE, HUGE, 0, HUGE)),
                 (1, {0: 1, 1: 1, 2: 0, 3: 1})]
        for value in right:
            self.assertTrue(weighs_plainly(ABC, TOLD, value))
        check_judge(self, lambda value: are_weights(ABC, TOLD, value), right, wrong)
        check_judge(self, lambda value: are_weights((3,), (), value), [], [(1, ()), WEIGHTS])

    def test_are_numbers(self):
        right = [NUMBERS, (1, {0: 0, 1: 0, 2: 0}), (2, {2: 2, 1: 2, 0: 4}), (HUGE, {0: 2 * HUGE, 1: HUGE, 2: HUGE})]
        wrong = [(1, {0: 3, 1: 1, 2: 1}), (1, {0: 2, 1: 2, 2: 1}), (1, {0: 2, 1: 1}), (1, {0: 2, 1: 1, 2: 1, 3: 0}),
                 (0, {0: 0, 1: 0, 2: 0}), (1, {0: 2, 1: 1, 2: -1}), (1, {0: 2, 1: 1, 2: None}), (1, (2, 1, 1)), (1,),
                 (1, NUMBERS[1], 1), ("1", NUMBERS[1]), (1, {0: 2, 1: 1, "2": 1}), (1, {0: 2, 1: 1, None: 1}),
                 (1, {0: 2, 1: 1, (2,): 1}), (1, {}), (-1, NUMBERS[1]), (HUGE, {0: 2 * HUGE + 1, 1: HUGE, 2: HUGE}),
                 (NUMBERS[1], 1)]
        for value in right:
            self.assertTrue(numbers_plainly(ABC, TOLD, value))
        check_judge(self, lambda value: are_numbers(ABC, TOLD, value), right, wrong)
        check_judge(self, lambda value: are_numbers((3,), (), value), [(1, {3: HUGE})], [(1, {}), NUMBERS])

    def test_is_letter_bound(self):
        many = (HUGE, (HUGE, HUGE, 0, HUGE)), (HUGE, {0: 2 * HUGE, 1: HUGE, 2: HUGE})
        right = [("least", (4, 1), WEIGHTS, NUMBERS), ("least", (4, 1)) + many, ("least", (4, 1), WEIGHTS, many[1])]
        wrong = [("least", (8, 2), WEIGHTS, NUMBERS), ("least", (5, 1), WEIGHTS, NUMBERS),
                 ("least", (4, 1), (1, (1, 0, 1, 0)), NUMBERS), ("least", (4, 1), WEIGHTS, (1, {0: 2, 1: 1, 2: 0})),
                 ("least", (4, 1), NUMBERS, WEIGHTS), ("least", (4, 1), WEIGHTS), ("open", 0), ("open", None),
                 ("least", 4, WEIGHTS, NUMBERS), ("least", (4, 0), WEIGHTS, NUMBERS), ("least",),
                 ("most", (4, 1), WEIGHTS, NUMBERS), ("least", (4, 1), WEIGHTS, NUMBERS, 0),
                 ("least", (-4, -1), WEIGHTS, NUMBERS), ("least", (4 * HUGE, HUGE), WEIGHTS, NUMBERS),
                 ("least", (4,), WEIGHTS, NUMBERS), ("least", ("4", 1), WEIGHTS, NUMBERS)]
        check_judge(self, lambda value: is_letter_bound(ABC, TOLD, ABC, value), right, wrong)
        opened = [("open", 1)]
        wrong = [("open", 0), ("open", 2), ("open", "1"), ("open", (1,)), ("open",), ("open", 1, 1), ("least", 1),
                 ("open", HUGE)]
        check_judge(self, lambda value: is_letter_bound(ABC, TOLD[:1], ABC, value), opened, wrong)
        none = (((), ABC, 0),)
        right = [("least", (0, 1), (1, (1,)), (1, dict.fromkeys(ABC, 0))),
                 ("least", (0, 1), (1, (HUGE,)), (HUGE, dict.fromkeys(ABC, 0)))]
        wrong = [("least", (0, 2), (1, (1,)), (1, dict.fromkeys(ABC, 0))),
                 ("least", (0, 0), (1, (1,)), (1, dict.fromkeys(ABC, 0)))]
        check_judge(self, lambda value: is_letter_bound(ABC, none, ABC, value), right, wrong)


def drawn_searches(seed, times):
    """Questions with told degrees that they keep, that go along an order, and to which all letters are new."""
    chance = random.Random(seed)
    for at in range(times):
        letters = ((3,), (0, 4), ABC, (1, 2, 3, 5))[at % 4]
        question = random_question(chance, letters, (0, 1, 2), 3)
        order = tuple(chance.sample(letters, len(letters)))
        pairs = []
        for lot in question.lots:
            told = [letter for letter in order if letter in lot]
            if told:
                cut = chance.randint(0, len(told) - 1)
                pairs.append((tuple(sorted(told[:cut])), tuple(sorted(told))))
                pairs.append(((), tuple(sorted(told[:cut + 1]))))
        told = tuple((low, high, k + chance.choice((0, 0, 1))) for low, high, k in exact_told(question, tuple(pairs)))
        yield question, tuple(chance.sample(told, len(told))), order


class SearchTest(unittest.TestCase):
    def test_looks_counted_plainly(self):
        """[15.3]"""
        for question, told, order in drawn_searches(155, 60):
            before = shown((question, told))
            found, looks = searched_by(question, told, order)
            self.assertEqual(shown((question, told)), before)
            self.assertEqual(found, answer(question))
            self.assertEqual(looks, looks_plainly(question, told, order))

    def test_looks_are_within_each_weights(self):
        """[15.4], [0.15]: EACH letter and EACH weights."""
        chance = random.Random(156)
        seen = 0
        for question, told, order in drawn_searches(157, 60):
            looks = searched_by(question, told, order)[1]
            tried = [letter_bound(question.lot, told, order)[2]]
            tried += [(D, tuple(chance.randint(0, 3) for _ in told)) for D in (1, 2) for _ in range(8)]
            for D, w in tried:
                if weighs_plainly(question.lot, told, (D, w)):
                    seen += 1
                    cost = sum(n * k for n, (_, _, k) in zip(w, told))
                    self.assertTrue(all(many ** D <= 2 ** cost for many in looks))
                    self.assertLessEqual(len(answer(question)) ** D, 2 ** cost)
        self.assertGreater(seen, 150)

    def test_what_is_asked_is_not_what_stage_four_asks(self):
        """[15.3]: the first part that keeps the degree, and its letters alone."""
        wide = Table((0, 1), tuple((n % 2, n) for n in range(8)))
        few = Table((1,), ((0,), (1,), (2,)))
        question = Question((0, 1), (wide, few))
        told = (((), (0,), 1), ((0,), (0, 1), 2))
        self.assertEqual(searched_by(question, told, (0, 1)), (answer(question), (2, 8)))
        self.assertEqual(searched(question, (0, 1))[1], (2, 6))
        self.assertEqual(searched_by(question, told + (((), (1,), 2),), (0, 1))[1], (2, 6))
        self.assertEqual(searched_by(question, (((), (0, 1), 3),), (0, 1))[1], (2, 8))
        self.assertEqual(searched_by(question, (((), (0,), 1), ((), (1,), 3)), (1, 0)), (answer(question), (8, 6)))
        self.assertEqual(searched_by(Question((0, 1), (few, wide)), (((), (0,), 1), ((), (1,), 3)), (1, 0))[1], (3, 6))

    def test_rows_agree_at_the_letters_of_high_alone(self):
        part = Table(ABC, ((0, 0, 0), (0, 1, 1), (1, 0, 1), (1, 1, 0)))
        question = Question(ABC, (part,))
        told = (((), (0,), 1), ((), (1,), 1), ((), (2,), 1))
        self.assertEqual(searched_by(question, told, ABC)[1], (2, 4, 8))
        self.assertEqual(searched_by(question, told + (((0, 1), ABC, 0),), ABC)[1], (2, 4, 4))

    def test_a_part_without_rows(self):
        question = Question((0, 1), (Table((0, 1), ()), SOME_TABLE))
        self.assertEqual(searched_by(question, (((), (0, 1), 0),), (1, 0)), (Table((0, 1), ()), (0, 0)))
        question = Question((0, 1), (SOME_TABLE, Table((), ())))
        self.assertEqual(searched_by(question, (((), (0, 1), 2),), (1, 0)), (Table((0, 1), ()), (0, 0)))

    def test_a_hundred_thousand_looks_and_more(self):
        wide, told = Table((0,), tuple((n,) for n in range(1000))), (((), (0,), 10), ((), (1,), 7))
        for many in (100, 101):
            question = Question((0, 1), (wide, Table((1,), tuple((n,) for n in range(many)))))
            if many == 100:
                self.assertEqual(searched_by(question, told, (0, 1))[1], (1000, 100000))
            else:
                refused(self, TooMany, searched_by, (question, told, (0, 1)), 100000)

    def test_six_letters(self):
        six = LOTS[-1]
        table = Table(six, tuple((n, n % 2, n % 3, 0, n, -n) for n in range(30)))
        told = (((), (0,), 5), ((0,), six, 0))
        self.assertEqual(searched_by(Question(six, (table,)), told, six), (table, (30,) * 6))


class FullTest(unittest.TestCase):
    def test_full_questions(self):
        chance = random.Random(158)
        for _ in range(60):
            lot = chance.choice(LOTS)
            lots = tuple(chance.choice(all_lots(lot)) for _ in range(chance.randint(0, 3)))
            lots += (tuple(letter for letter in lot if not any(letter in some for some in lots)),)
            numbers = {letter: chance.choice((0, 0, 1, 2)) for letter in reversed(lot)}
            if any(2 ** sum(numbers[letter] for letter in some) > 1000 for some in lots):
                refused(self, TooMany, full_question, (lot, lots, numbers), 1000)
                continue
            question = full_question(lot, lots, numbers)
            self.assertEqual((question.lot, question.lots), (lot, lots))
            for part in question.parts:
                self.assertEqual(part.rows, tuple(product(*[range(2 ** numbers[letter]) for letter in part.lot])))

    def test_bounds_that_are_come_to(self):
        """[15.5]: numbers with E = 1 keep all told degrees, and the answer has just as many rows."""
        seen = 0
        for lot, told, order in drawn_orders(159, 150):
            value = letter_bound(lot, told, order)
            if value[0] == "open" or value[3][0] != 1 or sum(value[3][1].values()) > 9:
                continue
            seen += 1
            question = full_question(lot, (lot,), value[3][1])
            self.assertTrue(all(keeps(question, told)))
            self.assertEqual(len(answer(question)), 2 ** sum(value[3][1].values()))
            self.assertEqual(Fraction(*value[1]), sum(value[3][1].values()))
        self.assertGreater(seen, 15)

    def test_nine_and_a_thousand_rows(self):
        self.assertEqual(len(full_question((2,), ((2,),), {2: 9}).parts[0]), 512)
        refused(self, TooMany, full_question, ((0, 2), ((0, 2),), {0: 1, 2: 9}), 1000)
        self.assertEqual(full_question((0, 2), ((0,), (), (2,)), {0: 9, 2: 9}).sizes, (512, 1, 512))
        self.assertEqual(len(full_question((0, 2), ((0, 2),) * 12, {0: 0, 2: 0}).parts), 12)


class WrongArgumentsTest(unittest.TestCase):
    LOT = (InvalidLot, WRONG_LOTS)
    TOLD = (InvalidTold, wrong_told((0, 1)))
    ORDER = (InvalidLot, ODD + OBJECTS + BOOLS + LONG_NUMBERS + (
        0, (), (0,), (0, 0), (0, 1, 1), (0, 2), [0, 1], (0, True), (False, 1), (0, None), (0, "1"), "01", {0: 0, 1: 1},
        (0, (1,))))
    RIGHT = (((), (0, 1), 2),)

    def test_bounds(self):
        start = ((self.LOT,), (self.TOLD,), (self.ORDER,))
        for call in (do_go_along, letter_bound):
            check_wrongs(self, call, ((0, 1), self.RIGHT, (1, 0)), start)
        for value in (("open", 0), None):
            check_wrongs(self, is_letter_bound, ((0, 1), self.RIGHT, (1, 0), value), start + ((),))
            for call in (are_weights, are_numbers):
                check_wrongs(self, call, ((0, 1), self.RIGHT, value), start[:2] + ((),))

    def test_what_comes_behind_all_others(self):
        told = (((0,), (0, 1), 1),)
        for call, more in ((letter_bound, ()), (is_letter_bound, (("open", 0),)), (is_letter_bound, (None,))):
            refused(self, InvalidOperation, call, ((0, 1), told, (1, 0)) + more)
            refused(self, InvalidOperation, call, ((), (), ()) + more)
            refused(self, InvalidLot, call, ((), (), (0,)) + more)
            refused(self, InvalidTold, call, ((), told, ()) + more)
        for call in (are_weights, are_numbers):
            for value in ((1, ()), (1, {}), None):
                refused(self, InvalidOperation, call, ((), (), value))
        refused(self, InvalidOperation, full_question, ((), ((),), {}))

    def test_searches(self):
        question = (InvalidQuestion, WRONG_QUESTIONS)
        right = (SOME_QUESTION, self.RIGHT, (1, 0))
        check_wrongs(self, searched_by, right, ((question,), (self.TOLD,), (self.ORDER,)))
        for told, order in (((((0,), (0, 1), 1), ((), (0,), 1)), (1, 0)), ((), (0, 1)), ((((), (0,), 1),), (0, 1)),
                            ((((0,), (0, 1), 1),), (0, 1))):
            refused(self, InvalidOperation, searched_by, (SOME_QUESTION, told, order))
        refused(self, InvalidOperation, searched_by, (Question((), ()), (), ()))
        unkept = (((), (0,), 1), ((), (0, 1), 1), ((), (1,), 0))
        refused(self, Refused, searched_by, (SOME_QUESTION, unkept, (0, 1)), ("kept", 1))
        refused(self, Refused, searched_by, (SOME_QUESTION, unkept[::-1], (0, 1)), ("kept", 0))
        refused(self, InvalidOperation, searched_by, (SOME_QUESTION, (((), (0,), 0),), (0, 1)))

    def test_full_questions(self):
        lots = (InvalidLot, ODD + OBJECTS + BOOLS + LONG_NUMBERS + (
            0, (), (0, 1), ((0,),), ((0,), ()), ((0, 1), (2,)), ((0, 1),) * 13, ((1, 0),), ((0, True),), ((0,), None),
            [(0, 1)], ([0, 1],)))
        numbers = (InvalidOperation, ODD[:10] + ODD[11:] + OBJECTS + BOOLS + LONG_NUMBERS + (
            0, (), {0: 1, 1: 10}, {0: 1, 1: -1}, {0: 1, 1: True}, {False: 1, 1: 1}, {0: 1}, {0: 1, 1: 1, 2: 1},
            {0: 1, "1": 1}, {0: 1, 1: None}, {0: 1, None: 1}, (1, 1), {0: 1, 1: HUGE}, {0: 1, 1: "1"}))
        check_wrongs(self, full_question, ((0, 1), ((0,), (1,)), {1: 2, 0: 1}), ((self.LOT,), (lots,), (numbers,)))
        refused(self, InvalidOperation, full_question, ((0, 1), ((0, 1),), {0: 9, 1: 10}))
        refused(self, InvalidLot, full_question, ((), (), {}))
        refused(self, TooMany, full_question, ((0, 1), ((0, 1),), {0: 9, 1: 9}), 1000)


class NotTrueTest(unittest.TestCase):
    """[15.6]"""

    def test_some_orders_only(self):
        self.assertEqual((do_go_along((0, 1), (((0,), (0, 1), 1),), (0, 1)),
                          do_go_along((0, 1), (((0,), (0, 1), 1),), (1, 0))), (True, False))

    def test_the_letter_with_the_fewest_numbers_is_not_best_asked_first(self):
        side = Table((0, 1), tuple((n % 2, n) for n in range(6)))
        other = Table((1, 2), ((0, 0),) + tuple((9, n) for n in range(5)))
        question = Question(ABC, (side, other))
        told = tuple(((), (letter,), 3) for letter in ABC)
        looks = {order: searched_by(question, told, order)[1] for order in permutations(ABC)}
        fewest = min(many[0] for many in looks.values())
        self.assertTrue(all(sum(many) > min(sum(some) for some in looks.values()) for many in looks.values()
                            if many[0] == fewest))


if __name__ == "__main__":
    unittest.main()
