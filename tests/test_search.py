"""Letter by letter [4.1] to [4.6], [0.15]: crestjoin.letter.search."""

import random
import unittest
from itertools import permutations, product

from crestjoin.cover.covers import cover_answer, cover_corners, is_cover
from crestjoin.errors import InvalidLot, InvalidNumber, InvalidOperation, InvalidQuestion, TooMany
from crestjoin.letter.search import are_looks_within, asked, begun_rows, product_of, searched
from crestjoin.table.joins import Question, answer
from crestjoin.table.tables import Table
from tests.support import (
    BOOLS, GREATEST, HUGE, LONG, LONGEST, LONG_NUMBERS, OBJECTS, ODD, SOME_TABLE, WRONG_QUESTIONS, all_rows,
    check_wrongs, part_of, random_question, refused, wrong_numbers,
)

NUMBERS = (0, 1, 2)
CHANCE = random.Random(41)
FAMILY = [random_question(CHANCE, letters, NUMBERS, many) for letters in ((3,), (0, 1), (0, 2, 5), (1, 2, 3, 4))
          for many in (1, 2, 3, 4) for _ in range(4)]
SIDES = ((1, 1), (1, 2), (2, 1))
RING = Question((0, 1, 2), (Table((0, 1), SIDES), Table((0, 2), SIDES), Table((1, 2), SIDES)))
EDGES = [Question((), ()), Question((), (Table((), ((),)),)), Question((), (Table((), ()),)),
         Question((0, 1), (SOME_TABLE, Table((), ()))), Question((0, 1), (SOME_TABLE, SOME_TABLE, Table((), ((),)))),
         Question((0, 1), (Table((1,), ()), SOME_TABLE)), RING]


def begun_plainly(question, order, many):
    """All begun rows of so many letters, by trying all."""
    first = order[:many]
    rows = []
    for row in product(NUMBERS, repeat=many):
        known = dict(zip(first, row))
        if all(any(agrees(part, whole, known) for whole in part.rows) for part in question.parts):
            rows.append(row)
    return rows


def agrees(part, whole, known):
    return all(known.get(letter, number) == number for letter, number in zip(part.lot, whole))


def next_numbers(part, known, letter):
    return sorted(set(dict(zip(part.lot, whole))[letter] for whole in part.rows if agrees(part, whole, known)))


def asked_plainly(question, order, row):
    known, letter = dict(zip(order, row)), order[len(row)]
    told = [(len(next_numbers(part, known, letter)), index) for index, part in enumerate(question.parts)
            if letter in part.lot]
    index = min(told)[1]
    return (index, tuple(next_numbers(question.parts[index], known, letter)))


def orders(question):
    return list(permutations(question.lot))[::2]


class SearchTest(unittest.TestCase):
    def test_begun_rows_by_trying_all(self):
        """[4.1]"""
        for question in FAMILY + EDGES:
            for order in orders(question):
                for many in range(len(order) + 1):
                    self.assertEqual(begun_rows(question, order, many), tuple(begun_plainly(question, order, many)))
                back = sorted(part_of(order, row, question.lot) for row in begun_rows(question, order, len(order)))
                self.assertEqual(tuple(back), answer(question).rows)

    def test_asked_by_looking_at_all_rows(self):
        """[4.2]"""
        for question in FAMILY + EDGES:
            for order in orders(question):
                for many in range(len(order)):
                    for row in begun_rows(question, order, many):
                        index, numbers = asked(question, order, row)
                        self.assertEqual((index, numbers), asked_plainly(question, order, row))
                        known = dict(zip(order, row))
                        going = [number for number in numbers
                                 if all(number in next_numbers(part, known, order[many])
                                        for part in question.parts if order[many] in part.lot)]
                        longer = [more for more in begun_rows(question, order, many + 1) if more[:-1] == row]
                        self.assertEqual([row + (number,) for number in going], longer)

    def test_of_several_parts_the_first_is_asked(self):
        one = Table((0,), ((1,), (2,)))
        self.assertEqual(asked(Question((0,), (Table((), ((),)), one, one)), (0,), ()), (1, (1, 2)))
        self.assertEqual(asked(Question((0,), (one, Table((0,), ((9,),)))), (0,), ()), (1, (9,)))

    def test_looks_by_looking_at_all_rows(self):
        """[4.3]"""
        for question in FAMILY + EDGES:
            for order in orders(question):
                found, looks = searched(question, order)
                plain = [sum(len(asked_plainly(question, order, row)[1]) for row in begun_plainly(question, order, many))
                         for many in range(len(order))]
                self.assertEqual(looks, tuple(plain))
                self.assertEqual(found, answer(question))
                if 0 in question.sizes:
                    self.assertEqual(looks, (0,) * len(order))

    def test_no_more_than_the_product_of_any_cover(self):
        """[4.4], [0.15]"""
        for question in FAMILY + [RING]:
            covers = list(cover_corners(question.lots)) + [(7, (7,) * len(question)), (2, (5,) * len(question))]
            for exponents in ((1,) * len(question), tuple(range(len(question)))):
                covers.append(cover_answer(question.lots, exponents)[2])
            for order in orders(question):
                found, looks = searched(question, order)
                for cover in covers:
                    self.assertTrue(is_cover(question.lots, cover))
                    most = 1
                    for size, weight in zip(question.sizes, cover[1]):
                        most *= size ** weight
                    self.assertEqual(product_of(question.sizes, cover), most)
                    for many in looks + (len(found),):
                        self.assertLessEqual(many ** cover[0], most)
                    self.assertIs(are_looks_within(looks + (len(found),), question.sizes, cover), True)

    def test_the_three_ring(self):
        """[4.5]"""
        for n in (1, 2, 5, 20):
            star = tuple((0, m) for m in range(n)) + tuple((m, 0) for m in range(1, n))
            for rows in (star, tuple((m, m) for m in range(2 * n - 1)), tuple((m % 3, m) for m in range(2 * n - 1))):
                ring = Question((0, 1, 2), (Table((0, 1), rows), Table((0, 2), rows), Table((1, 2), rows)))
                for order in permutations((0, 1, 2)):
                    for many in searched(ring, order)[1]:
                        self.assertLessEqual(many ** 2, (2 * n - 1) ** 3)

    def test_edges(self):
        none = Question((), ())
        self.assertEqual(searched(none, ()), (Table((), ((),)), ()))
        self.assertEqual(begun_rows(none, (), 0), ((),))
        self.assertEqual(begun_rows(Question((), (Table((), ()),)), (), 0), ())
        self.assertEqual(searched(Question((0, 1), (SOME_TABLE, Table((), ()))), (1, 0)), (Table((0, 1), ()), (0, 0)))


class MostTest(unittest.TestCase):
    WIDE = Table((0,), tuple((n,) for n in range(1000)))

    def tall(self, many):
        return Table((1,), tuple((n,) for n in range(many)))

    def test_looks_that_are_let_and_one_more(self):
        self.assertEqual(searched(Question((0, 1), (self.WIDE, self.tall(100))), (0, 1))[1], (1000, 100000))
        more = Question((0, 1), (self.WIDE, self.tall(101)))
        refused(self, TooMany, searched, (more, (0, 1)), 100000)
        refused(self, TooMany, begun_rows, (more, (0, 1), 2), 100000)
        self.assertEqual(len(begun_rows(more, (0, 1), 1)), 1000)
        self.assertEqual(begun_rows(more, (0, 1), 0), ((),))

    def test_looks_count_though_no_row_comes_of_them(self):
        apart = Table((1,), tuple((n + 2000,) for n in range(101)))
        question = Question((0, 1), (self.WIDE, self.tall(101), apart))
        self.assertEqual(len(answer(question)), 0)
        refused(self, TooMany, searched, (question, (0, 1)), 100000)
        self.assertEqual(searched(question, (1, 0)), (Table((0, 1), ()), (101, 0)))

    def test_twelve_parts_of_a_thousand_rows(self):
        six = Table((0, 1, 2, 3, 4, 5), tuple((n, n // 2, 7, n % 3, -n, 0) for n in range(1000)))
        found, looks = searched(Question(six.lot, (six,) * 12), (5, 4, 3, 2, 1, 0))
        self.assertEqual((found, looks), (six, (1, 1000, 1000, 1000, 1000, 1000)))


class ProductTest(unittest.TestCase):
    def test_products(self):
        self.assertEqual(product_of((3, 4, 5), (2, (2, 0, 1))), 45)
        self.assertEqual(product_of((0, 7), (1, (0, 1))), 7)
        self.assertEqual(product_of((0, 7), (1, (1, 1))), 0)
        self.assertEqual(product_of((GREATEST,) * 12, (99, (99,) * 12)), GREATEST ** (99 * 12))
        self.assertEqual(product_of((1,), (1, (0,))), 1)

    def test_looks_within(self):
        self.assertIs(are_looks_within((), (0,), (1, (1,))), True)
        self.assertIs(are_looks_within((0,), (0,), (1, (1,))), True)
        self.assertIs(are_looks_within((1,), (0,), (1, (1,))), False)
        self.assertIs(are_looks_within((5,), (3, 3, 3), (2, (1, 1, 1))), True)
        self.assertIs(are_looks_within((5, 6, 1), (3, 3, 3), (2, (1, 1, 1))), False)
        self.assertIs(are_looks_within((GREATEST,) * 6, (GREATEST, 2), (99, (99, 0))), True)
        self.assertIs(are_looks_within((GREATEST,) * 6, (GREATEST - 1, 2), (99, (99, 0))), False)

    def test_wrong_arguments(self):
        sizes = (InvalidOperation, ODD + OBJECTS + BOOLS + LONG_NUMBERS + (
            0, (), (1,) * 13, [3, 3], (-1, 3), (LONG, 3), (3, LONGEST), (True, 3), (3, False), (3, None), (3, "3"),
            (3, (3,)), (3, [3]), {3: 3},
        ))
        covers = (InvalidOperation, ODD + OBJECTS + BOOLS + LONG_NUMBERS + (
            0, (), (1,), (1, (1,)), (1, (1, 1, 1)), (0, (1, 1)), (100, (1, 1)), (1, (1, 100)), (1, (1, -1)),
            (True, (1, 1)), (1, (True, 1)), (1, [1, 1]), [1, (1, 1)], (1, (1, 1), 1), (1, (1, None)), (HUGE, (1, 1)),
            (None, (1, 1)), ((1, 1), 1), (-1, (1, 1)), (1, {0: 1, 1: 1}),
        ))
        check_wrongs(self, product_of, ((3, 3), (1, (1, 1))), ((sizes,), (covers,)))
        looks = (InvalidOperation, ((0,) * 7, 0, [0], (-1,), (LONG,), (True,), (None,), {}, None, SOME_TABLE, ("1",)))
        check_wrongs(self, are_looks_within, ((2,), (3, 3), (1, (1, 1))), ((looks,), (sizes,), (covers,)))
        refused(self, InvalidOperation, product_of, ((3, 3), (1, (1,))))
        refused(self, InvalidOperation, product_of, ((), (1, ())))
        refused(self, InvalidOperation, product_of, ((3,) * 13, (1, (1,) * 13)))
        self.assertEqual(product_of((3,) * 12, (1, (1,) * 12)), 3 ** 12)


class WrongArgumentsTest(unittest.TestCase):
    def setUp(self):
        self.question = (InvalidQuestion, WRONG_QUESTIONS)
        self.order = (InvalidLot, ODD + OBJECTS + BOOLS + LONG_NUMBERS + (
            0, (), (0, 1), (0, 1, 1), (0, 1, 2, 2), (0, 1, 3), (0, 1, 2, 3), [0, 1, 2], (0, True, 2), (False, 1, 2),
            (0, 1, None), (0, 1, "2"), (0, 1, (2,)), "012", (0, 1, HUGE), {0: 0, 1: 1, 2: 2},
        ))

    def test_searched(self):
        check_wrongs(self, searched, (RING, (2, 0, 1)), ((self.question,), (self.order,)))
        refused(self, InvalidLot, searched, (Question((), ()), (0,)))

    def test_begun_rows(self):
        many = (InvalidNumber, wrong_numbers(0, 3))
        check_wrongs(self, begun_rows, (RING, (2, 0, 1), 3), ((self.question,), (self.order,), (many,)))
        refused(self, InvalidNumber, begun_rows, (Question((), ()), (), 1), 1)

    def test_asked(self):
        rows = (InvalidOperation, ODD + OBJECTS + BOOLS + LONG_NUMBERS + (
            0, (0,), (3,), (2, 2), (1, 1, 1), (2, 1, 1), (True,), (1, True), [1], (1, None), (HUGE,), (LONG, 1), "1",
            (1, 1, 1, 1), (1, (1,)), {0: 1},
        ))
        check_wrongs(self, asked, (RING, (2, 0, 1), (1,)), ((self.question,), (self.order,), (rows,)))
        refused(self, InvalidOperation, asked, (Question((), ()), (), ()))
        refused(self, InvalidOperation, asked, (Question((0,), (Table((0,), ()),)), (0,), ()))
        for question in FAMILY:
            order = question.lot[::-1]
            for many in range(len(order)):
                begun = begun_plainly(question, order, many)
                for row in all_rows(order[:many], (0, 1, 2, 3)):
                    if row not in begun:
                        refused(self, InvalidOperation, asked, (question, order, row))


class NotTrueTest(unittest.TestCase):
    """[4.6]"""

    def test_whole_weights_are_not_enough(self):
        rows = tuple((n, m) for n in range(4) for m in range(4))
        ring = Question((0, 1, 2), (Table((0, 1), rows), Table((0, 2), rows), Table((1, 2), rows)))
        least = product_of(ring.sizes, (2, (1, 1, 1)))
        whole = [weights for weights in product(range(4), repeat=3) if is_cover(ring.lots, (1, weights))]
        for weights in whole:
            self.assertGreater(product_of(ring.sizes, (1, weights)) ** 2, least)

    def test_few_looks_at_first_can_be_many_in_all(self):
        wide = Table((0, 1), tuple((n // 5, n) for n in range(10)))
        question = Question((0, 1, 2), (wide, Table((1, 2), ((0, 0), (1, 1), (2, 2))), Table((2,), ((2,), (3,), (4,)))))
        looks = {order: searched(question, order)[1] for order in permutations((0, 1, 2))}
        first = min(many[0] for many in looks.values())
        fewest = min(sum(many) for many in looks.values())
        self.assertTrue(all(sum(many) > fewest for many in looks.values() if many[0] == first))

    def test_next_numbers_of_one_part_need_not_be_begun(self):
        self.assertEqual(asked(RING, (0, 1, 2), (2, 1)), (1, (1,)))
        two = Question((0,), (Table((0,), ((1,), (2,))), Table((0,), ((2,), (3,)))))
        self.assertEqual((asked(two, (0,), ()), begun_rows(two, (0,), 1)), ((0, (1, 2)), ((2,),)))


if __name__ == "__main__":
    unittest.main()
