"""Sums over answers [17.1] to [17.7]: crestjoin.tree.sums."""

import random
import unittest
from itertools import product
from math import prod

from crestjoin.errors import InvalidLot, InvalidOperation, InvalidQuestion, TooMany
from crestjoin.table.joins import Question, answer
from crestjoin.table.tables import Table
from crestjoin.tree.sums import best_row, count, is_best_row, notes, plain_sum, shares, tree_sum
from crestjoin.tree.webs import fold_answer
from tests.folds import SIX, WRONG_TREES, drawn_questions, letters_of
from tests.support import (
    BOOLS, GREATEST, HUGE, LONG, LONG_NUMBERS, OBJECTS, ODD, SOME_TABLE, WRONG_LOTS, WRONG_QUESTIONS, all_lots,
    check_judge, check_wrongs, common, part_of, plain_answer, random_table, refused, shown,
)

KINDS = (("sum", 0), ("sum", 2), ("sum", 7), ("sum", GREATEST), ("least",), ("truth",))
LEFT, RIGHT = Table((0, 1), ((1, 2), (1, 3), (4, 5))), Table((1, 2), ((2, 7), (3, 7), (9, 9)))
PAIR = Question((0, 1, 2), (LEFT, RIGHT))
ONES = ({(1, 2): 1, (1, 3): 1, (4, 5): 1}, {(2, 7): 1, (3, 7): 1, (9, 9): 1})
PRICES = ({(1, 2): 5, (1, 3): 2, (4, 5): -9}, {(2, 7): 1, (3, 7): 3, (9, 9): 0})


def worth(kind, weights):
    """The worth of weights, from the words of the document."""
    if kind[0] == "sum":
        return prod(weights)
    return sum(weights) if kind == ("least",) else all(weight != 0 for weight in weights)


def total(kind, worths):
    """The total of worths, from the words of the document."""
    if kind[0] == "sum":
        return sum(worths) % kind[1] if kind[1] else sum(worths)
    return min(worths, default=None) if kind == ("least",) else any(worths)


def drawn_weights(chance, question, most):
    return tuple({row: chance.choice((0, 1, -1, chance.randint(-most, most))) for row in part.rows}
                 for part in question.parts)


def weights_of(question, row, weights, places):
    """The weights of the parts of a row at some places."""
    return [weights[place][part_of(question.lot, row, question.lots[place])] for place in places]


def kept_plainly(question, rows, weights, kind, kept):
    found = {}
    for row in rows:
        found.setdefault(part_of(question.lot, row, kept), []).append(row)
    places = range(len(question))
    return {part: total(kind, [worth(kind, weights_of(question, row, weights, places)) for row in found[part]])
            for part in sorted(found)}


def places_at(tree, place):
    """The place and all that stand below it."""
    found = [place]
    for other in found:
        found += [lower for lower, above in enumerate(tree) if above == other]
    return found


def note_plainly(question, tree, place, weights, kind):
    """The note of a place by all rows of the join of the parts at the place and below it."""
    places = places_at(tree, place)
    letters = letters_of([question.lots[at] for at in places])
    above = tree[place]
    shared = () if above is None else common(question.lots[place], question.lots[above])
    found = {}
    for row in product((0, 1, 2), repeat=len(letters)):
        parts = [part_of(letters, row, question.lots[at]) for at in places]
        if all(part in question.parts[at] for at, part in zip(places, parts)):
            made = worth(kind, [weights[at][part] for at, part in zip(places, parts)])
            found.setdefault(part_of(letters, row, shared), []).append(made)
    return {part: total(kind, found[part]) for part in sorted(found)}


def shares_plainly(question, rows, weights, kind):
    found = []
    for place, part in enumerate(question.parts):
        others = [other for other in range(len(question)) if other != place]
        having = {row: [] for row in part.rows}
        for row in rows:
            made = worth(kind, weights_of(question, row, weights, others))
            having[part_of(question.lot, row, part.lot)].append(made)
        found.append({row: total(kind, having[row]) for row in part.rows})
    return tuple(found)


class SumTest(unittest.TestCase):
    def test_kept_totals_by_all_rows_of_the_answer(self):
        """[17.1], [17.2]: plainly and along trees, for each kind and kept lot."""
        chance = random.Random(171)
        seen = {True: 0, False: 0}
        for question, trees in drawn_questions(171, 70):
            rows = plain_answer(question, (0, 1, 2))
            seen[rows == ()] += 1
            for kind in KINDS:
                weights = drawn_weights(chance, question, chance.choice((1, 3, GREATEST)))
                lots = all_lots(question.lot)
                for kept in chance.sample(lots, min(3, len(lots))) + [(), question.lot]:
                    plain = kept_plainly(question, rows, weights, kind, kept)
                    for call, args in [(plain_sum, (question,))] + [(tree_sum, (question, tree)) for tree in trees]:
                        before = shown((args, weights))
                        told = call(*args, weights, kind, kept)
                        self.assertEqual(shown(told), shown(plain))
                        self.assertEqual(shown((args, weights)), before)
        self.assertGreater(min(seen.values()), 6)

    def test_notes_by_the_rows_at_and_below_each_place(self):
        """[17.3], [17.4]"""
        chance = random.Random(172)
        seen = set()
        for question, trees in drawn_questions(172, 60):
            for tree in trees:
                kind = chance.choice(KINDS)
                weights = drawn_weights(chance, question, chance.choice((2, GREATEST)))
                told = notes(question, tree, weights, kind)
                plain = tuple(note_plainly(question, tree, place, weights, kind) for place in range(len(tree)))
                self.assertEqual(shown(told), shown(plain))
                whole = kept_plainly(question, plain_answer(question, (0, 1, 2)), weights, kind, ())
                if tree:
                    self.assertEqual(told[tree.index(None)], whole)
                seen.add((kind, whole == {}))
        self.assertGreater(len(seen), 2 * len(KINDS) - 3)

    def test_shares_by_the_rows_of_all_other_parts(self):
        """[17.5]: rows that are in no row of the answer among them; weights times shares make the whole total."""
        chance = random.Random(173)
        lone = 0
        for question, trees in drawn_questions(173, 70):
            rows = plain_answer(question, (0, 1, 2))
            for tree in trees:
                kind = chance.choice(KINDS)
                weights = drawn_weights(chance, question, chance.choice((2, GREATEST)))
                told = shares(question, tree, weights, kind)
                self.assertEqual(shown(told), shown(shares_plainly(question, rows, weights, kind)))
                if kind[0] == "sum":
                    whole = kept_plainly(question, rows, weights, kind, ()).get((), 0)
                    for some, share in zip(weights, told):
                        self.assertEqual(total(kind, [some[row] * share[row] for row in some]), whole)
                nothing = total(kind, [])
                lone += sum(value is nothing for some in told for value in some.values())
        self.assertGreater(lone, 100)

    def test_best_rows(self):
        """[17.6], [0.5]: the least sum, and each row that has it is taken."""
        chance = random.Random(174)
        seen = {None: 0, 1: 0, 2: 0}
        for question, trees in drawn_questions(174, 90):
            rows = plain_answer(question, (0, 1, 2))
            for tree in trees:
                weights = drawn_weights(chance, question, chance.choice((1, 5, GREATEST)))
                sums = {row: sum(weights_of(question, row, weights, range(len(question)))) for row in rows}
                least = min(sums.values(), default=None)
                best = [row for row in rows if sums[row] == least]
                told = best_row(question, tree, weights)
                self.assertIn(told, best or [None])
                seen[min(len(best), 2) or None] += 1
                for row in rows + (None, question.lot, (0,) * 5, (3,) * len(question.lot)):
                    self.assertIs(is_best_row(question, tree, weights, row), row in best or (row is None and not best))
        self.assertGreater(min(seen.values()), 10)

    def test_counts(self):
        for question, trees in drawn_questions(175, 60):
            for tree in trees:
                self.assertEqual(count(question, tree), len(plain_answer(question, (0, 1, 2))))


class EdgesTest(unittest.TestCase):
    def test_no_parts(self):
        none = Question((), ())
        for kind, one in ((("sum", 0), 1), (("sum", 2), 1), (("least",), 0), (("truth",), True)):
            self.assertEqual(shown(plain_sum(none, (), kind, ())), shown({(): one}))
            self.assertEqual(shown(tree_sum(none, (), (), kind, ())), shown({(): one}))
            self.assertEqual((notes(none, (), (), kind), shares(none, (), (), kind)), ((), ()))
        self.assertEqual((best_row(none, (), ()), count(none, ())), ((), 1))
        self.assertIs(is_best_row(none, (), (), ()), True)
        self.assertIs(is_best_row(none, (), (), None), False)

    def test_parts_without_rows_and_on_no_letters(self):
        dull = Table((), ())
        question = Question((0, 1, 2), (LEFT, RIGHT, dull))
        weights = PRICES + ({},)
        for kind, nothing in ((("sum", 3), 0), (("least",), None), (("truth",), False)):
            self.assertEqual(tree_sum(question, (None, 0, 1), weights, kind, (1,)), {})
            self.assertEqual(plain_sum(question, weights, kind, ()), {})
            self.assertEqual(notes(question, (None, 0, 1), weights, kind), ({}, {}, {}))
            told = shares(question, (None, 0, 1), weights, kind)
            self.assertTrue(all(value is nothing for some in told for value in some.values()))
            self.assertEqual([list(some) for some in told], [list(LEFT.rows), list(RIGHT.rows), []])
        self.assertIsNone(best_row(question, (2, 0, None), weights))
        self.assertIs(is_best_row(question, (2, 0, None), weights, None), True)
        full = Question((0, 1, 2), (LEFT, RIGHT, Table((), ((),))))
        self.assertEqual(tree_sum(full, (None, 0, 1), PRICES + ({(): -3},), ("sum", 0), (0,)), {(1,): -33})
        self.assertEqual(shares(full, (2, 0, None), PRICES + ({(): -3},), ("sum", 10))[2], {(): 1})
        self.assertEqual(notes(full, (2, 0, None), PRICES + ({(): -3},), ("least",))[2], {(): 2})

    def test_one_part_alone(self):
        alone = Question((0, 1), (SOME_TABLE,))
        weights = ({(0, 1): 4, (1, 0): -6, (1, 1): 0},)
        self.assertEqual(tree_sum(alone, (None,), weights, ("sum", 5), (0,)), {(0,): 4, (1,): 4})
        self.assertEqual(notes(alone, (None,), weights, ("sum", 0)), ({(): -2},))
        for kind, one in ((("sum", 0), 1), (("sum", 2), 1), (("least",), 0), (("truth",), True)):
            self.assertEqual(shown(shares(alone, (None,), weights, kind)), shown(({row: one for row in weights[0]},)))
        self.assertEqual(best_row(alone, (None,), weights), (1, 0))

    def test_one_lot_twice_and_places_without_common_letters(self):
        twice = Question((0, 1), (SOME_TABLE, Table((0, 1), ((0, 1), (1, 1), (2, 2))), Table((0,), ((0,), (1,)))))
        weights = ({(0, 1): 2, (1, 0): 3, (1, 1): 5}, {(0, 1): 7, (1, 1): 11, (2, 2): 13}, {(0,): 17, (1,): 0})
        self.assertEqual(tree_sum(twice, (1, None, 0), weights, ("sum", 0), (0, 1)), {(0, 1): 238, (1, 1): 0})
        self.assertEqual(shares(twice, (1, None, 0), weights, ("sum", 0))[1], {(0, 1): 34, (1, 1): 0, (2, 2): 0})
        apart = Question((0, 1), (Table((0,), ((1,), (2,))), Table((1,), ((5,), (6,), (7,)))))
        weights = ({(1,): 3, (2,): -4}, {(5,): 1, (6,): 10, (7,): 100})
        for tree in ((None, 0), (1, None)):
            self.assertEqual(tree_sum(apart, tree, weights, ("sum", 0), ()), {(): -111})
            self.assertEqual(tree_sum(apart, tree, weights, ("least",), (0,)), {(1,): 4, (2,): -3})
            self.assertEqual(count(apart, tree), 6)
        self.assertEqual(notes(apart, (None, 0), weights, ("sum", 0)), ({(): -111}, {(): 111}))

    def test_totals_of_nought_have_rows_all_the_same(self):
        weights = ({(1, 2): 0, (1, 3): 2, (4, 5): 1}, {(2, 7): 4, (3, 7): 3, (9, 9): 1})
        self.assertEqual(tree_sum(PAIR, (None, 0), weights, ("sum", 6), (1,)), {(2,): 0, (3,): 0})
        self.assertEqual(tree_sum(PAIR, (None, 0), weights, ("truth",), (1,)), {(2,): False, (3,): True})
        self.assertEqual(tree_sum(PAIR, (1, None), ONES, ("sum", 2), ()), {(): 0})

    def test_negative_weights_modulo(self):
        weights = ({(1, 2): -5, (1, 3): -2, (4, 5): 1}, {(2, 7): 1, (3, 7): 3, (9, 9): 1})
        self.assertEqual(plain_sum(PAIR, weights, ("sum", 7), (0,)), {(1,): 3})
        self.assertEqual(notes(PAIR, (1, None), weights, ("sum", 7)), ({(2,): 2, (3,): 5, (5,): 1}, {(): 3}))
        self.assertEqual(shares(PAIR, (1, None), weights, ("sum", GREATEST))[1],
                         {(2, 7): GREATEST - 5, (3, 7): GREATEST - 2, (9, 9): 0})


class SizesTest(unittest.TestCase):
    def test_twelve_places_of_a_thousand_rows(self):
        chance = random.Random(176)
        lots = ((0, 1), (1, 2), (2, 3), (3, 4), (4, 5), (0,), (1,), (2,), (0, 1), (2, 3), (4, 5), (3, 4))
        parts = tuple(random_table(chance, lot, range(1000 if len(lot) == 1 else 60), 1000) for lot in lots)
        question = Question(SIX, parts)
        tree = fold_answer(lots)[1]
        weights = tuple({row: chance.randint(-GREATEST, GREATEST) for row in part.rows} for part in parts)
        ones = tuple({row: 1 for row in part.rows} for part in parts)
        many = count(question, tree)
        self.assertGreater(many, 100000)
        whole = tree_sum(question, tree, weights, ("sum", 0), ())[()]
        self.assertGreater(abs(whole), 10 ** 90)
        for kept in ((0,), (0, 5), (0, 3, 5)):
            self.assertEqual(sum(tree_sum(question, tree, weights, ("sum", 0), kept).values()), whole)
            self.assertEqual(sum(tree_sum(question, tree, ones, ("sum", 0), kept).values()), many)
        self.assertEqual(tree_sum(question, tree, weights, ("sum", GREATEST), ())[()], whole % GREATEST)
        for some, share in zip(weights, shares(question, tree, weights, ("sum", 0))):
            self.assertEqual(sum(some[row] * share[row] for row in some), whole)
        row = best_row(question, tree, weights)
        self.assertIs(is_best_row(question, tree, weights, row), True)
        self.assertEqual(sum(weights_of(question, row, weights, range(12))),
                         tree_sum(question, tree, weights, ("least",), ())[()])
        refused(self, TooMany, tree_sum, (question, tree, weights, ("least",), SIX), 100000)
        refused(self, TooMany, plain_sum, (question, weights, ("least",), ()), 100000)

    def test_a_hundred_thousand_rows_and_more(self):
        wide = Table((0,), tuple((n,) for n in range(1000)))
        for many in (100, 101):
            question = Question((0, 1), (wide, Table((1,), tuple((n,) for n in range(many)))))
            ones = tuple({row: 1 for row in part.rows} for part in question.parts)
            for tree in ((None, 0), (1, None)):
                self.assertEqual(tree_sum(question, tree, ones, ("sum", 0), ()), {(): 1000 * many})
                self.assertEqual(len(tree_sum(question, tree, ones, ("sum", 0), (0,))), 1000)
                if many == 100:
                    self.assertEqual(len(tree_sum(question, tree, ones, ("sum", 0), (0, 1))), 100000)
                    self.assertEqual(len(plain_sum(question, ones, ("sum", 0), (0, 1))), 100000)
                else:
                    refused(self, TooMany, tree_sum, (question, tree, ones, ("sum", 0), (0, 1)), 100000)
                    refused(self, TooMany, plain_sum, (question, ones, ("sum", 0), ()), 100000)

    def test_kept_by_far_letters(self):
        """What stands between the kept letters has more rows than are kept, from whichever side it is come to."""
        hubs = Question((0, 1, 2, 3), (
            Table((0, 1), tuple((n, 0) for n in range(1000))), Table((1, 2), tuple((0, n) for n in range(1000))),
            Table((2, 3), tuple((n, n % 100) for n in range(1000)))))
        ones = tuple({row: 1 for row in part.rows} for part in hubs.parts)
        for tree in ((None, 0, 1), (1, 2, None), (1, None, 1)):
            self.assertEqual(set(tree_sum(hubs, tree, ones, ("sum", 0), (0,)).values()), {1000})
            self.assertEqual(set(tree_sum(hubs, tree, ones, ("sum", 0), (0, 3)).values()), {10})
            self.assertEqual(len(tree_sum(hubs, tree, ones, ("truth",), (0, 3))), 100000)
            refused(self, TooMany, tree_sum, (hubs, tree, ones, ("sum", 0), (0, 2)), 100000)
        apart = Question(SIX, tuple(Table((n,), tuple((k,) for k in range(1000))) for n in SIX))
        ones = tuple({row: 1 for row in part.rows} for part in apart.parts)
        tree = (None, 0, 0, 0, 0, 0)
        self.assertEqual(count(apart, tree), 10 ** 18)
        refused(self, TooMany, tree_sum, (apart, tree, ones, ("sum", 0), SIX), 100000)

    def test_parts_of_a_hundred_thousand_rows(self):
        rows = [(Table((0,), tuple((n,) for n in range(1000))), Table((1,), tuple((n,) for n in range(100))))]
        whole = answer(Question((0, 1), rows[0]))
        question = Question((0, 1, 2), (whole, Table((1, 2), tuple((n, n % 3) for n in range(50)))))
        weights = ({row: row[0] - row[1] for row in whole.rows}, {row: 1 + row[1] for row in question.parts[1].rows})
        plain = {(k,): sum((n - m) * (1 + k) for n in range(1000) for m in range(50) if m % 3 == k) for k in range(3)}
        for tree in ((None, 0), (1, None)):
            self.assertEqual(tree_sum(question, tree, weights, ("sum", 0), (2,)), plain)
            self.assertEqual(notes(question, tree, weights, ("sum", 0))[tree.index(None)], {(): sum(plain.values())})
            self.assertEqual(len(shares(question, tree, weights, ("least",))[0]), 100000)
            self.assertIn(best_row(question, tree, weights), ((0, 48, 0), (0, 49, 1)))
            self.assertIs(is_best_row(question, tree, weights, (0, 49, 1)), True)


class JudgeTest(unittest.TestCase):
    def test_is_best_row_as_a_judge(self):
        level = ({(1, 2): 1, (1, 3): 2, (4, 5): -9}, {(2, 7): 4, (3, 7): 3, (9, 9): -9})
        right = [(1, 2, 7), (1, 3, 7)]
        wrong = [(4, 5, 9), (1, 2, 7, 0), (1, 2), (), [1, 2, 7], (1, 2, HUGE), (7, 2, 1), {0: 1}, ((1, 2, 7),)]
        for tree in ((None, 0), (1, None)):
            check_judge(self, lambda value: is_best_row(PAIR, tree, level, value), right, wrong)
            check_judge(self, lambda value: is_best_row(PAIR, tree, PRICES, value), [(1, 3, 7)], wrong + [(1, 2, 7)])
        none = Question((0,), (Table((0,), ()),))
        self.assertIs(is_best_row(none, (None,), ({},), None), True)
        for value in ((), (0,), False, 0, "", [], {}, (None,), HUGE):
            self.assertIs(is_best_row(none, (None,), ({},), value), False)


class WrongArgumentsTest(unittest.TestCase):
    QUESTION = (InvalidQuestion, WRONG_QUESTIONS)
    TREE = (InvalidOperation, WRONG_TREES)
    WEIGHTS = (InvalidOperation, ODD + OBJECTS + BOOLS + LONG_NUMBERS + (
        0, (), ONES[:1], ONES + ({},), list(ONES), ONES[::-1], (ONES[0], None), (None, ONES[1]), ({}, ONES[1]),
        (ONES[0], {**ONES[1], (9, 8): 1}), (ONES[0], {(2, 7): 1, (3, 7): 1}), (ONES[0], {**ONES[1], (9, 9): True}),
        (ONES[0], {**ONES[1], (9, 9): LONG}), (ONES[0], {**ONES[1], (9, 9): -LONG}), (ONES[0], {**ONES[1], (9, 9): "1"}),
        (ONES[0], {**ONES[1], (9, 9): None}), ({(True, 2): 1, (1, 3): 1, (4, 5): 1}, ONES[1]),
        (ONES[0], {(2, 7): 1, (3, 7): 1, "9": 1}), (ONES[0], {(2, 7): 1, (3, 7): 1, (9,): 1}),
        (ONES[0], tuple(ONES[1].items())), (ONES[0], {(2, 7): 1, (3, 7): 1, None: 1}),
    ))
    KIND = (InvalidOperation, ODD + OBJECTS + BOOLS + LONG_NUMBERS + (
        0, (), ("sum",), ("sum", 1), ("sum", -1), ("sum", -2), ("sum", True), ("sum", False), ("sum", None),
        ("sum", "0"), ("sum", LONG), ("sum", 2, 2), ("least", 0), ("truth", 0), ["least"], "least", ("truths",),
        ("SUM", 0), (None, 0), ("least", "truth"), (("least",),), ("sum", (2,)), (SOME_TABLE, 0),
    ))
    KEPT = (InvalidLot, WRONG_LOTS + ((3,), (0, 1, 2, 3), (2, 5)))

    def test_sums(self):
        behind = ((self.WEIGHTS,), (self.KIND,), (self.KEPT,))
        check_wrongs(self, plain_sum, (PAIR, ONES, ("sum", 0), (1,)), ((self.QUESTION,),) + behind)
        few = tuple(((error, values[::3]),) for (error, values), in behind)
        check_wrongs(self, tree_sum, (PAIR, (None, 0), ONES, ("least",), ()), ((self.QUESTION,), (self.TREE,)) + few)

    def test_notes_and_shares(self):
        for call in (notes, shares):
            check_wrongs(self, call, (PAIR, (1, None), ONES, ("truth",)),
                         ((self.QUESTION,), (self.TREE,), (self.WEIGHTS,), (self.KIND,)))

    def test_best_rows_and_counts(self):
        check_wrongs(self, best_row, (PAIR, (1, None), ONES), ((self.QUESTION,), (self.TREE,), (self.WEIGHTS,)))
        for value in ((1, 2, 7), None):
            check_wrongs(self, is_best_row, (PAIR, (1, None), ONES, value),
                         ((self.QUESTION,), (self.TREE,), (self.WEIGHTS,), ()))
        check_wrongs(self, count, (PAIR, (1, None)), ((self.QUESTION,), (self.TREE,)))

    def test_questions_whose_web_does_not_fold(self):
        ring = Question((0, 1, 2), tuple(Table(lot, ()) for lot in ((0, 1), (0, 2), (1, 2))))
        for tree in ((None, 0, 0), (None, 0, 1), (1, None, 1)):
            refused(self, InvalidOperation, count, (ring, tree))
            refused(self, InvalidOperation, tree_sum, (ring, tree, ({}, {}, {}), ("least",), ()))
        self.assertEqual(plain_sum(ring, ({}, {}, {}), ("least",), ()), {})

    def test_what_comes_first(self):
        refused(self, InvalidOperation, plain_sum, (PAIR, ONES, ("sum", 1), (9,)))
        refused(self, InvalidLot, plain_sum, (PAIR, ONES, ("sum", 2), (3,)))
        wide = Table((0,), tuple((n,) for n in range(1000)))
        great = Question((0, 1), (wide, Table((1,), wide.rows)))
        ones = tuple({row: 1 for row in part.rows} for part in great.parts)
        refused(self, TooMany, plain_sum, (great, ones, ("sum", 0), ()), 100000)
        refused(self, InvalidLot, plain_sum, (great, ones, ("sum", 0), (2,)))
        refused(self, InvalidOperation, plain_sum, (great, ones[:1], ("sum", 0), (0, 1)))


class NotTrueTest(unittest.TestCase):
    """[17.7]"""

    def test_a_total_of_nought_does_not_tell_that_the_answer_has_no_rows(self):
        self.assertEqual((tree_sum(PAIR, (None, 0), ONES, ("sum", 2), ()), len(answer(PAIR))), ({(): 0}, 2))

    def test_totals_kept_by_two_lots_do_not_tell_those_kept_by_both(self):
        even, odd = Table((0, 1), ((0, 0), (1, 1))), Table((0, 1), ((0, 1), (1, 0)))
        told = []
        for table in (even, odd):
            question, weights = Question((0, 1), (table,)), ({row: 1 for row in table.rows},)
            told.append([tree_sum(question, (None,), weights, ("sum", 0), kept) for kept in ((0,), (1,), (0, 1))])
        self.assertEqual(told[0][:2], told[1][:2])
        self.assertNotEqual(told[0][2], told[1][2])

    def test_the_share_of_a_row_does_not_hang_on_its_own_weight(self):
        for weight in (0, 1, -7, GREATEST):
            weights = ({**PRICES[0], (1, 2): weight}, PRICES[1])
            self.assertEqual(shares(PAIR, (None, 0), weights, ("sum", 0))[0][(1, 2)], 1)


if __name__ == "__main__":
    unittest.main()
