"""Trees of bags [18.1] to [18.4], [18.6]: crestjoin.tree.bags."""

import random
import unittest
from fractions import Fraction
from itertools import combinations, permutations, product

from crestjoin.cover.covers import cover_answer, exponents_of
from crestjoin.errors import InvalidLot, InvalidOperation, InvalidQuestion, InvalidTold, TooMany
from crestjoin.flow.rules import rule_bound
from crestjoin.table.joins import Question, answer
from crestjoin.table.tables import Table
from crestjoin.tree.bags import bag_answer, bag_tables, bags_of, is_bags, is_least_width, least_width, width
from crestjoin.tree.webs import fold_answer
from tests.folds import SIX, all_trees, is_tree_plainly, letters_of, some_webs
from tests.support import (
    BOOLS, HUGE, LONG_NUMBERS, OBJECTS, ODD, SOME_QUESTION, SOME_TABLE, WRONG_LOTS, WRONG_QUESTIONS, all_lots, all_rows,
    check_judge, check_wrongs, common, part_of, plain_answer, random_question, random_table, refused, shown, wrong_told,
)

WHEEL = ((0, 1), (1, 2), (2, 3), (0, 3))
SPLIT = (((0, 1, 2), (0, 2, 3)), (None, 0))
ABC, FOUR = (0, 1, 2), (0, 1, 2, 3)
EDGES = tuple(((), lot, 2) for lot in ((0, 1), (0, 3), (1, 2), (2, 3)))


def are_bags_plainly(lots, bags, tree):
    """Whether lots and places are a tree of bags, from the words of the document."""
    letters = letters_of(lots)
    return (len(bags) <= 12 and all(bag in all_lots(letters) for bag in bags) and is_tree_plainly(bags, tree)
            and all(any(set(lot) <= set(bag) for bag in bags) for lot in lots))


def bags_plainly(lots, order):
    """The bags of a sequence of letters, from the words of the document."""
    near = {letter: {other for lot in lots if letter in lot for other in lot} for letter in letters_of(lots)}
    bags = {()} if lots else set()
    for letter in order:
        bag = near.pop(letter)
        bags.add(tuple(sorted(bag)))
        for other in bag - {letter}:
            near[other] = (near[other] | bag) - {letter}
    return tuple(sorted(bag for bag in bags if not any(set(bag) < set(other) for other in bags)))


def drawn_bags(chance, lots):
    """A tree of bags with bags twice and within one another, from any sequence of letters."""
    order = list(letters_of(lots))
    chance.shuffle(order)
    bags = list(bags_plainly(lots, order))
    for _ in range(chance.randint(0, 3)):
        if bags and len(bags) < 12:
            some = chance.choice(bags)
            bags.append(tuple(letter for letter in some if chance.random() < 0.6))
    if len(bags) > 1 and chance.random() < 0.3:
        one, other = chance.sample(range(len(bags)), 2)
        bags[one] = tuple(sorted(set(bags[one]) | set(bags[other])))
    chance.shuffle(bags)
    tree = fold_answer(tuple(bags))
    return (tuple(bags), tree[1]) if tree[0] == "folds" else None


def drawn_told(chance, letters, many):
    pairs = [(low, high) for high in all_lots(letters) for low in all_lots(high) if low != high]
    told = tuple(chance.choice(pairs) + (chance.randint(0, 20),) for _ in range(chance.choice((0, 3, many))))
    whole = (letters[:2], letters[1:]) if chance.random() < 0.6 else ()
    return told + tuple(((), some, chance.randint(0, 20)) for some in whole if some)


def bound_plainly(letters, told, bag):
    """The least bound of a bag as a fraction, None if it is endless."""
    if bag == ():
        return Fraction(0)
    found = rule_bound(letters, (bag,), told)
    return Fraction(*found[1]) if found[0] == "least" else None


def width_plainly(letters, told, bags):
    bounds = [bound_plainly(letters, told, bag) for bag in bags]
    return None if None in bounds else max(bounds, default=Fraction(0))


def as_width(value):
    return None if value is None else (value.numerator, value.denominator)


class BagsTest(unittest.TestCase):
    def test_is_bags_by_the_words(self):
        """[18.1]: all pairs of few lots and places."""
        seen = {True: 0, False: 0}
        chance = random.Random(181)
        for lots in some_webs(181, 50, ABC, 4):
            bags = [()] + [tuple(chance.choice(all_lots(FOUR)[:12]) for _ in range(many)) for many in (1, 1, 2, 3)]
            drawn = [drawn_bags(chance, lots) for _ in range(4)]
            for some in bags + [one[0] for one in drawn if one and len(one[0]) < 4]:
                for tree in product((None,) + tuple(range(len(some))), repeat=len(some)):
                    right = are_bags_plainly(lots, some, tree)
                    seen[right] += 1
                    self.assertIs(is_bags(lots, (some, tree)), right, (lots, some, tree))
        self.assertGreater(min(seen.values()), 200)

    def test_is_bags_as_a_judge(self):
        right = [SPLIT, (((0, 2, 3), (0, 1, 2)), (1, None)), ((FOUR,), (None,)), ((FOUR, FOUR), (1, None)),
                 (((0, 1, 3), (1, 2, 3)), (None, 0)), (((0, 1), FOUR, (), (0, 1, 2)), (1, None, 0, 1))]
        wrong = [SPLIT[:1], SPLIT + (0,), (SPLIT[0], (None, None)), (SPLIT[0], (None,)), (WHEEL, (None, 0, 1, 2)),
                 (((0, 1, 2), (0, 3)), (None, 0)), (((0, 1, 2, 3, 4),), (None,)), ((FOUR,) * 13, (None,) + (0,) * 12),
                 (((0, 1, 2), (0, 2, 3), (5,)), (None, 0, 0)), (((2, 1, 0), (0, 2, 3)), (None, 0)), (SPLIT,),
                 (((0, 1, 2), None), (None, 0)), ((FOUR,), (0,)), ((), ()), (None, (None,)), (SPLIT[0], None),
                 {0: SPLIT[0], 1: SPLIT[1]}, ((FOUR, (0, HUGE)), (None, 0))]
        check_judge(self, lambda value: is_bags(WHEEL, value), right, wrong)
        self.assertIs(is_bags(WHEEL, ((FOUR,) * 12, (None,) + (0,) * 11)), True)
        check_judge(self, lambda value: is_bags((), value), [((), ()), (((),), (None,)), (((), ()), (1, None))],
                    [(((0,),), (None,)), ((), (None,))])
        check_judge(self, lambda value: is_bags(((),), value), [(((),), (None,))], [((), ())])

    def test_bags_of_all_sequences(self):
        """[18.3]: by the test's own taking off of letters, with any tree."""
        seen = set()
        for lots in some_webs(182, 60, SIX, 6):
            for order in list(permutations(letters_of(lots)))[::7]:
                before = shown((lots, order))
                bags, tree = bags_of(lots, order)
                self.assertEqual(bags, bags_plainly(lots, order))
                self.assertTrue(are_bags_plainly(lots, bags, tree))
                self.assertIs(is_bags(lots, (bags, tree)), True)
                self.assertEqual(shown((lots, order)), before)
                seen.add(len(bags))
        self.assertGreater(len(seen), 4)
        self.assertEqual(bags_of((), ()), ((), ()))
        self.assertEqual(bags_of(((), ()), ()), (((),), (None,)))
        twelve = tuple(combinations(SIX, 2))[:12]
        self.assertEqual(bags_of(twelve, SIX[::-1])[0], bags_plainly(twelve, SIX[::-1]))

    def test_some_sequence_is_as_good_as_each_tree_of_bags(self):
        """[18.3]"""
        chance = random.Random(183)
        seen = 0
        for lots in some_webs(183, 80, (0, 1, 2, 3, 4), 5):
            drawn = drawn_bags(chance, lots)
            if drawn is not None:
                seen += 1
                self.assertIs(is_bags(lots, drawn), True)
                made = [bags_plainly(lots, order) for order in permutations(letters_of(lots))]
                self.assertTrue(any(all(any(set(bag) <= set(own) for own in drawn[0]) for bag in bags) for bags in made))
        self.assertGreater(seen, 60)


class TablesTest(unittest.TestCase):
    def test_bag_tables_by_all_rows(self):
        """[18.2]: each table, their join, and the covers' products."""
        chance = random.Random(184)
        seen = {True: 0, False: 0}
        for letters in ((), (1,), ABC, FOUR, (0, 2, 3, 4)):
            for at in range(16):
                question = random_question(chance, letters, (0, 1, 2), 1 + at % 4) if letters else Question(
                    (), tuple(random_table(chance, (), (), chance.randint(0, 1)) for _ in range(at % 3)))
                bags = drawn_bags(chance, question.lots)
                if bags is None:
                    continue
                rows = plain_answer(question, (0, 1, 2))
                seen[rows == ()] += 1
                before = shown((question, bags))
                tables = bag_tables(question, bags)
                self.assertEqual(shown((question, bags)), before)
                for bag, table in zip(bags[0], tables):
                    parts = [(common(lot, bag), {part_of(lot, row, common(lot, bag)) for row in part.rows})
                             for lot, part in zip(question.lots, question.parts)]
                    plain = tuple(row for row in all_rows(bag, (0, 1, 2))
                                  if all(part_of(bag, row, some) in known for some, known in parts))
                    self.assertEqual((table.lot, table.rows), (bag, plain))
                    self.check_cover(question, bag, table)
                if letters:
                    self.assertEqual(answer(Question(letters, tables)).rows, rows)
                found, sizes = bag_answer(question, bags)
                self.assertEqual((found.lot, found.rows), (letters, rows))
                self.assertEqual(sizes, tuple(len(table) for table in tables))
        self.assertGreater(min(seen.values()), 8)

    def check_cover(self, question, bag, table):
        lots = tuple(common(lot, bag) for lot in question.lots)
        (p, D), (top, weights) = cover_answer(lots, exponents_of(question.sizes))[1:3]
        self.assertLessEqual(len(table) ** D, 2 ** p)
        product_of_sizes = 1
        for size, weight in zip(question.sizes, weights):
            product_of_sizes *= size ** weight
        self.assertLessEqual(len(table) ** top, product_of_sizes)

    def test_edges_of_bag_tables(self):
        question = Question((0, 1), (SOME_TABLE, Table((), ())))
        for bags in ((((0, 1),), (None,)), (((0, 1), (), (0,)), (None, 0, 0))):
            self.assertEqual([len(table) for table in bag_tables(question, bags)], [0] * len(bags[0]))
            self.assertEqual(bag_answer(question, bags), (Table((0, 1), ()), (0,) * len(bags[0])))
        self.assertEqual([table.rows for table in bag_tables(SOME_QUESTION, (((), (0, 1), (1,)), (1, None, 1)))],
                         [((),), SOME_TABLE.rows, ((0,), (1,))])
        self.assertEqual(bag_answer(Question((), ()), ((), ())), (Table((), ((),)), ()))
        self.assertEqual(bag_answer(Question((), ()), (((),), (None,))), (Table((), ((),)), (1,)))

    def test_a_hundred_thousand_rows_and_more(self):
        wide = Table((0,), tuple((n,) for n in range(1000)))
        last = Table((2,), ((0,), (1,)))
        for many in (100, 101):
            question = Question((0, 1), (wide, Table((1,), tuple((n,) for n in range(many)))))
            both, each = (((0, 1),), (None,)), (((0,), (1,)), (None, 0))
            if many == 100:
                self.assertEqual([len(table) for table in bag_tables(question, both)], [100000])
                self.assertEqual(bag_answer(question, both)[1], (100000,))
                self.assertEqual(len(bag_answer(question, each)[0]), 100000)
            else:
                refused(self, TooMany, bag_tables, (question, both), 100000)
                refused(self, TooMany, bag_answer, (question, both), 100000)
                self.assertEqual([len(table) for table in bag_tables(question, each)], [1000, 101])
                refused(self, TooMany, bag_answer, (question, each), 100000)
        question = Question(ABC, (wide, Table((1,), wide.rows[:100]), last))
        apart = (((0, 1), (2,)), (None, 0))
        self.assertEqual([len(table) for table in bag_tables(question, apart)], [100000, 2])
        refused(self, TooMany, bag_answer, (question, apart), 100000)

    def test_bags_of_a_hundred_thousand_rows(self):
        """A bag's table is great, and the answer small."""
        spokes = Table((0, 1), tuple((n, 0) for n in range(1000)))
        question = Question(FOUR, (
            spokes, Table((1, 2), tuple((0, n) for n in range(100))), Table((2, 3), tuple((n, n) for n in range(100))),
            Table((0, 3), ((5, 7), (999, 99)))))
        found, sizes = bag_answer(question, (((0, 1, 2), (0, 2, 3)), (1, None)))
        self.assertEqual((found.rows, sizes), (((5, 0, 7, 7), (999, 0, 99, 99)), (200, 2)))
        free = Question(FOUR, question.parts[:3] + (Table((3,), ((7,),)),))
        self.assertEqual(bag_answer(free, (((0, 1, 2), (2, 3)), (None, 0)))[1], (100000, 1))
        self.assertEqual(len(bag_answer(free, (((0, 1, 2), (2, 3)), (1, None)))[0]), 1000)


class WidthTest(unittest.TestCase):
    def test_widths_by_the_bounds_of_the_bags(self):
        """[18.4]"""
        chance = random.Random(185)
        seen = {True: 0, False: 0}
        for lots in some_webs(184, 60, (0, 1, 2, 3, 4), 5):
            letters = letters_of(lots)
            bags = drawn_bags(chance, lots)
            if letters and bags is not None:
                told = drawn_told(chance, letters, 8)
                plain = width_plainly(letters, told, bags[0])
                self.assertEqual(width(lots, told, bags), as_width(plain))
                seen[plain is None] += 1
        self.assertGreater(min(seen.values()), 10)

    def test_least_widths_over_all_sequences(self):
        """[18.3], [18.4]: and no tree of bags that is drawn has less."""
        chance = random.Random(186)
        seen = {True: 0, False: 0}
        for lots in some_webs(185, 26, (0, 1, 2, 3, 4), 6):
            letters = letters_of(lots)
            if not letters:
                continue
            told = drawn_told(chance, letters, 8)
            sets = {bags_plainly(lots, order) for order in permutations(letters)}
            bounds = {bag: bound_plainly(letters, told, bag) for bags in sets for bag in bags}
            widths = [[bounds[bag] for bag in bags] for bags in sets]
            least = min((max(some) for some in widths if None not in some), default=None)
            found = least_width(lots, told)
            self.assertEqual(found[0], as_width(least))
            self.assertIs(is_least_width(lots, told, found), True)
            self.assertTrue(are_bags_plainly(lots, *found[1]))
            seen[least is None] += 1
            for _ in range(1):
                drawn = drawn_bags(chance, lots)
                if drawn is not None:
                    other = width_plainly(letters, told, drawn[0])
                    self.assertTrue(other is None or (least is not None and least <= other))
                    for claimed in (as_width(other), found[0]):
                        self.assertIs(is_least_width(lots, told, (claimed, drawn)), other == least)
        self.assertGreater(min(seen.values()), 3)

    def test_bounds_that_are_no_whole_numbers(self):
        """The greatest of 5 / 2 and 3, of 7 / 2 and 3, in each sequence of the bags."""
        sides = (((), (0, 1), 1), ((), (0, 2), 2), ((), (1, 2), 2))
        ring = ((0, 1), (0, 2), (1, 2), (2, 3))
        for k, plain in ((2, (5, 2)), (3, (3, 1)), (4, (4, 1))):
            for bags in ((((0, 1, 2), (2, 3)), (None, 0)), (((2, 3), (0, 1, 2)), (None, 0))):
                told = sides + (((), (2, 3), k),)
                self.assertEqual(width(ring, told, bags), plain)
                self.assertEqual(least_width(ring, told)[0], plain)
                self.assertIs(is_least_width(ring, told, (plain, bags)), True)
        for k, plain in ((3, (7, 2)), (4, (4, 1))):
            told = tuple((low, high, n + (high != (0, 1))) for low, high, n in sides) + (((), (2, 3), k),)
            self.assertEqual(width(ring, told, (((2, 3), (0, 1, 2)), (1, None))), plain)

    def test_least_widths_over_all_webs_of_bags(self):
        """All webs of few bags on three letters that have a tree."""
        chance = random.Random(187)
        for lots in (((0, 1), (1, 2), (0, 2)), ((0, 1), (1, 2)), ((0,), (1,), (2,)), ((0, 1, 2), (0,)), ((0, 2), (1,))):
            told = drawn_told(chance, ABC, 6) + (((), ABC, 20),)
            webs = [bags for many in (1, 2, 3) for bags in combinations(all_lots(ABC), many)
                    if any(are_bags_plainly(lots, bags, tree) for tree in all_trees(bags))]
            plain = min(width_plainly(ABC, told, bags) for bags in webs)
            self.assertEqual(least_width(lots, told)[0], as_width(plain))

    def test_five_letters_with_twenty_told_degrees(self):
        five = (0, 1, 2, 3, 4)
        told = tuple(((), pair, 3 + at) for at, pair in enumerate(combinations(five, 2)))
        told += tuple(((at,), tuple(sorted((at, (at + 1) % 5))), 2 * at) for at in five) + (((), five, 20),) * 5
        for lots in (tuple(combinations(five, 2)), tuple(combinations(five, 4)), ((0, 1), (2, 3, 4), (1, 2), (0, 3))):
            found = least_width(lots, told)
            self.assertIs(is_least_width(lots, told, found), True)
            self.assertEqual(width(lots, told, found[1]), found[0])

    def test_is_least_width_as_a_judge(self):
        right = [((4, 1), SPLIT), ((4, 1), (((0, 2, 3), (0, 1, 2)), (1, None))), ((4, 1), ((FOUR,), (None,))),
                 ((4, 1), (((0, 1, 3), (1, 2, 3), (), (1,), (1, 3)), (4, 4, 0, 0, None)))]
        wrong = [((8, 2), SPLIT), ((3, 1), SPLIT), ((5, 1), SPLIT), (None, SPLIT), ((4, 1), (WHEEL, (None, 0, 1, 2))),
                 ((4, 1), SPLIT, 0), ((4, 1),), (SPLIT, (4, 1)), (4, SPLIT), ((4,), SPLIT), ((4, 1, 1), SPLIT),
                 ([4, 1], SPLIT), ((4, HUGE), SPLIT), ("4", SPLIT), ((4, 1), None)]
        check_judge(self, lambda value: is_least_width(WHEEL, EDGES, value), right, wrong)
        endless = [(None, SPLIT), (None, ((FOUR,), (None,))), (None, (((0, 1, 3), (1, 2, 3)), (1, None)))]
        check_judge(self, lambda value: is_least_width(WHEEL, EDGES[:2], value), endless,
                    [((4, 1), SPLIT), ((0, 1), SPLIT), (None, (WHEEL, (None, 0, 1, 2))), (None, None), (False, SPLIT),
                     ((), SPLIT), (0, SPLIT)])
        self.assertIsNone(least_width(WHEEL, EDGES[:2])[0])
        self.assertIsNone(width(WHEEL, EDGES[:2], SPLIT))
        check_judge(self, lambda value: is_least_width(((0,),), (((), (0,), 0),), value),
                    [((0, 1), (((0,),), (None,))), ((0, 1), (((), (0,)), (1, None)))],
                    [((0, 2), (((0,),), (None,))), ((0, 0), (((0,),), (None,))), ((0, True), (((0,),), (None,)))])


class WrongArgumentsTest(unittest.TestCase):
    LOTS = (InvalidLot, WRONG_LOTS[:-2] + (((0,),) * 13, ((1, 0),), ((0,), None), [(0,)], ([0],), ((True,),), ((6,),)))
    QUESTION = (InvalidQuestion, WRONG_QUESTIONS)
    TWO = ((0, 1), (1, 2))
    BAGS = (InvalidOperation, ODD + OBJECTS + BOOLS + LONG_NUMBERS + (
        0, (), ((), ()), (TWO,), (TWO, ()), (TWO, (None, None)), (TWO, (0, 1)), (TWO, (None, 2)), (TWO, (None, True)),
        (TWO, (None, 0), 0), (((0, 1), (2,)), (None, 0)), (((0, 1, 3), (1, 2)), (None, 0)), (list(TWO), (None, 0)),
        (TWO, [None, 0]), ((ABC,) * 13, (None,) + (0,) * 12), (((1, 0), (1, 2)), (None, 0)), ((ABC,), (0,)),
        ((), (None,)), (((True,), ABC), (1, None)), {0: TWO}, (TWO + ((0, 2),), (None, 0, 1)), (None, None),
    ))
    TOLD = (InvalidTold, wrong_told(ABC))

    def test_bags_of(self):
        orders = (InvalidLot, ODD + OBJECTS + BOOLS + LONG_NUMBERS + (
            0, (), (0,), (0, 1), (0, 1, 1), (0, 1, 2, 2), (0, 1, 3), (0, 1, True), [0, 1, 2], (0, 1, "2"), (0, 1, 2, 3),
            "012", (0, 1, (2,)), (0, 1, HUGE), {0: 0, 1: 1, 2: 2},
        ))
        check_wrongs(self, bags_of, (self.TWO, (2, 0, 1)), ((self.LOTS,), (orders,)))
        for value in (SPLIT, None):
            check_wrongs(self, is_bags, (self.TWO, value), ((self.LOTS,), ()))

    def test_tables(self):
        question = Question(ABC, (SOME_TABLE, Table((1, 2), ((1, 1),))))
        for call in (bag_tables, bag_answer):
            check_wrongs(self, call, (question, (self.TWO, (1, None))), ((self.QUESTION,), (self.BAGS,)))

    def test_widths(self):
        lots = (InvalidLot, self.LOTS[1] + ((), ((),), ((), ()), ((0, 1, 2), (3, 4, 5)), (SIX,)))
        right = (self.TWO, (((), ABC, 1),))
        check_wrongs(self, width, right + ((self.TWO, (1, None)),), ((lots,), (self.TOLD,), (self.BAGS,)))
        check_wrongs(self, least_width, right, ((lots,), (self.TOLD,)))
        for value in (least_width(*right), None):
            check_wrongs(self, is_least_width, right + (value,), ((lots,), (self.TOLD,), ()))
        refused(self, InvalidTold, least_width, (((0, 1), (1, 4)), (((), (0, 2), 1),)))
        self.assertEqual(least_width(((0, 1), (1, 4)), (((), (0, 1, 4), 1),))[0], (1, 1))


class NotTrueTest(unittest.TestCase):
    """[18.6]"""

    def test_the_least_width_need_not_be_that_of_the_lots_themselves(self):
        self.assertEqual(least_width(WHEEL, EDGES)[0], (4, 1))
        self.assertEqual(max(bound_plainly(FOUR, EDGES, lot) for lot in WHEEL), 2)
        self.assertEqual(fold_answer(WHEEL)[0], "stuck")

    def test_bags_of_one_sequence_can_be_those_of_other_ones(self):
        self.assertEqual(bags_of(WHEEL, (0, 1, 2, 3))[0], bags_of(WHEEL, (2, 3, 0, 1))[0])


if __name__ == "__main__":
    unittest.main()
