"""Webs that fold [0.14], [16.1] to [16.5]: crestjoin.tree.webs."""

import unittest
from itertools import combinations, permutations, product

from crestjoin.errors import InvalidLot, InvalidOperation, InvalidQuestion, TooMany
from crestjoin.table.joins import Question, answer
from crestjoin.table.tables import Table
from crestjoin.tree import webs
from crestjoin.tree.webs import fold_answer, is_fold, is_stuck, is_tree, reduced, sequence_of, tree_answer
from tests.folds import SIX, WRONG_TREES, all_trees, drawn_questions, is_tree_plainly, some_webs
from tests.support import (
    HUGE, SOME_TABLE, WRONG_LOTS, WRONG_QUESTIONS, all_lots, check_judge, check_wrongs, part_of, plain_answer, refused,
    shown,
)

TWIG, SHUT, WHEEL = ((0, 1), (2, 3), (1, 2)), ((0, 1), (0, 2), (1, 2)), ((0, 1), (1, 2), (2, 3), (0, 3))
LEFT, RIGHT = Table((0, 1), ((1, 2), (1, 3), (4, 5))), Table((1, 2), ((2, 7), (3, 7), (9, 9)))
PAIR = Question((0, 1, 2), (LEFT, RIGHT))


def is_stuck_plainly(lots, some):
    """Whether a lot is stuck, from the words of the document."""
    cut = {tuple(letter for letter in lot if letter in some) for lot in lots}
    left = sorted(lot for lot in cut if not any(set(lot) < set(other) for other in cut))
    if len(some) >= 3 and left == sorted(combinations(some, len(some) - 1)):
        return True
    if len(some) < 4:
        return False
    return any(left == sorted(tuple(sorted((ring[at], ring[at - 1]))) for at in range(len(ring)))
               for ring in permutations(some) if ring[0] == some[0])


class TreeTest(unittest.TestCase):
    def test_is_tree_by_the_words(self):
        """[16.1]: all tuples of places and None."""
        seen = {True: 0, False: 0}
        for lots in some_webs(161, 60, (0, 1, 2, 3), 4):
            for tree in product((None,) + tuple(range(-1, len(lots) + 1)), repeat=len(lots)):
                right = is_tree_plainly(lots, tree)
                seen[right] += 1
                self.assertIs(is_tree(lots, tree), right, (lots, tree))
        self.assertGreater(min(seen.values()), 150)

    def test_is_tree_as_a_judge(self):
        right = [(None, 2, 0), (2, None, 1), (2, 2, None)]
        wrong = [(None, 0, 0), (2, 0, 1), (None, None, 0), (None, 2), (None, 2, 0, 0), (None, 2, 3), (None, 2, -1),
                 (None, 2, HUGE), (None, 2, "0"), (None, 2, (0,)), (None, 2, None), ((None, 2, 0),), "020",
                 (None, 1, 0), {0: None, 1: 2, 2: 0}]
        check_judge(self, lambda value: is_tree(TWIG, value), right, wrong)
        check_judge(self, lambda value: is_tree((), value), [()], [(None,)])
        check_judge(self, lambda value: is_tree(((),), value), [(None,)], [(), (0,), (None, None)])
        twice = ((0, 1), (0, 1))
        check_judge(self, lambda value: is_tree(twice, value), [(None, 0), (1, None)], [(0, 1), (1, 0), (None, None)])

    def test_lots_without_common_letters(self):
        for tree in ((None, 0), (1, None)):
            self.assertIs(is_tree(((0,), (1,)), tree), True)
        self.assertIs(is_tree(((0,), (), (0,)), (None, 0, 0)), True)
        self.assertIs(is_tree(((0,), (), (0,)), (None, 0, 1)), False)

    def test_sequences(self):
        """[16.4]: the least place whose place above is there, again and again."""
        for lots in some_webs(162, 80, (0, 1, 2, 3), 5):
            for tree in all_trees(lots)[:40]:
                told = sequence_of(lots, tree)
                self.assertEqual(sorted(told), list(range(len(lots))))
                for at, place in enumerate(told):
                    ready = [p for p in range(len(lots)) if p not in told[:at]
                             and (tree[p] is None or tree[p] in told[:at])]
                    self.assertEqual(place, min(ready))
        self.assertEqual(sequence_of((), ()), ())
        self.assertEqual(sequence_of(((0,),) * 12, (None,) + (0,) * 11), tuple(range(12)))
        self.assertEqual(sequence_of(((0,),) * 12, tuple(range(1, 12)) + (None,)), tuple(range(11, -1, -1)))


class FoldTest(unittest.TestCase):
    def test_either_a_tree_or_a_lot_that_is_stuck(self):
        """[16.2], [0.14]: never both, one of both."""
        seen = {"folds": 0, "stuck": 0}
        for lots in some_webs(163, 300):
            told = fold_answer(lots)
            seen[told[0]] += 1
            self.assertIs(is_fold(lots, told), True)
            stuck = [some for some in all_lots(SIX) if is_stuck_plainly(lots, some)]
            self.assertEqual([some for some in all_lots(SIX) if is_stuck(lots, some)], stuck)
            self.assertEqual(told[0] == "stuck", stuck != [])
            if told[0] == "folds":
                self.assertTrue(is_tree_plainly(lots, told[1]))
            else:
                self.assertIn(told[1], stuck)
        self.assertGreater(min(seen.values()), 30)

    def test_few_places_by_all_trees(self):
        for lots in some_webs(164, 120, (0, 1, 2, 3), 4):
            self.assertEqual(fold_answer(lots)[0] == "folds", all_trees(lots) != [])

    def test_rings_and_lots_but_one_letter(self):
        for n in range(3, 7):
            letters = SIX[6 - n:]
            ring = tuple(tuple(sorted((letters[at], letters[at - 1]))) for at in range(n))
            but_one = tuple(combinations(letters, n - 1))
            for web in (ring, but_one, ring + ring, but_one[::-1] + ((), letters[:1])):
                self.assertEqual(fold_answer(web), ("stuck", letters))
                self.assertIs(is_fold(web, ("stuck", letters)), True)
                self.assertEqual(fold_answer(web + (letters,))[0] if len(web) < 12 else "folds", "folds")
            self.assertEqual(fold_answer(ring[1:])[0], "folds")
            self.assertEqual(fold_answer(but_one[1:])[0], "folds" if n == 3 else "stuck")

    def test_cut_lots(self):
        """[16.2]: a ring of greater lots, stuck where they are cut to it."""
        web = ((0, 1, 4), (1, 2, 4), (2, 3, 4), (0, 3, 4))
        self.assertIs(is_stuck(web, (0, 1, 2, 3)), True)
        self.assertIs(is_stuck(web, (0, 1, 2, 3, 4)), False)
        self.assertEqual(fold_answer(web)[0], "stuck")
        self.assertIs(is_stuck(((0, 1, 5), (0, 2, 5), (1, 2, 3), (1,)), (0, 1, 2)), True)

    def test_is_stuck_as_a_judge(self):
        check_judge(self, lambda value: is_stuck(WHEEL, value), [(0, 1, 2, 3)],
                    [(0, 1, 2), (0, 1), (), (0, 1, 2, 3, 4), (3, 2, 1, 0), (0, 1, 2, 3, 3), "0123", {0: 1},
                     (0, 1, 2, HUGE)])
        check_judge(self, lambda value: is_stuck((), value), [], [(), (0,), (0, 1, 2)])
        two = ((0, 1), (1, 2), (0, 2), (3, 4), (4, 5), (3, 5))
        check_judge(self, lambda value: is_stuck(two, value), [(0, 1, 2), (3, 4, 5)],
                    [(0, 1, 2, 3, 4, 5), (0, 1, 2, 3)])

    def test_is_fold_as_a_judge(self):
        right = [("folds", (None, 2, 0)), ("folds", (2, None, 1)), ("folds", (2, 2, None))]
        wrong = [("folds", (None, 0, 0)), ("stuck", (None, 2, 0)), ("folds",), ("folds", (None, 2, 0), 0),
                 ("stuck", (0, 1, 2)), (None, ()), ("fold", (None, 2, 0)), ("folds", None), (None, 2, 0)]
        check_judge(self, lambda value: is_fold(TWIG, value), right, wrong)
        check_judge(self, lambda value: is_fold(SHUT, value), [("stuck", (0, 1, 2))],
                    [("stuck", (0, 1)), ("folds", (None, 0, 0)), ("stuck", (0, 1, 2), 0), ("stuck", None),
                     ("stuck", (2, 1, 0)), ("folds", (0, 1, 2)), ("struck", (0, 1, 2)), (None, (0, 1, 2)),
                     (SOME_TABLE, (0, 1, 2))])
        check_judge(self, lambda value: is_fold((), value), [("folds", ())], [("stuck", ())])

    def test_twelve_places(self):
        self.assertEqual(webs.MOST_PARTS, 12)
        chain = tuple(tuple(sorted((n % 6, (n + 1) % 6))) for n in range(5)) + ((2, 3),) * 6 + ((),)
        self.assertEqual(fold_answer(chain)[0], "folds")
        self.assertEqual(fold_answer(tuple(combinations(SIX, 2))[:12])[0], "stuck")
        self.assertEqual(fold_answer(tuple(combinations(SIX, 5)) + (SIX,) + ((),) * 5)[0], "folds")


class AlongTest(unittest.TestCase):
    def test_both_ways_are_projections(self):
        """[16.3]: each part is the answer's projection."""
        seen = {True: 0, False: 0}
        for question, trees in drawn_questions(165, 120):
            rows = plain_answer(question, (0, 1, 2))
            seen[rows == ()] += 1
            for tree in trees:
                before = shown(question)
                parts = reduced(question, tree)
                self.assertEqual(shown(question), before)
                self.assertEqual(tuple(part.lot for part in parts), question.lots)
                for part in parts:
                    self.assertEqual(part.rows, tuple(sorted({part_of(question.lot, row, part.lot) for row in rows})))
        self.assertGreater(min(seen.values()), 8)

    def test_along_the_tree(self):
        """[16.4]: no table on the way has more rows than the answer."""
        for question, trees in drawn_questions(166, 120):
            rows = plain_answer(question, (0, 1, 2))
            for tree in trees:
                found, sizes = tree_answer(question, tree)
                self.assertEqual((found.lot, found.rows), (question.lot, rows))
                letters = set()
                plain = []
                for place in sequence_of(question.lots, tree):
                    letters |= set(question.lots[place])
                    plain.append(len({part_of(question.lot, row, sorted(letters)) for row in rows}))
                self.assertEqual(sizes, tuple(plain))
                self.assertTrue(all(many <= len(rows) for many in sizes))

    def test_a_hundred_thousand_rows_and_more(self):
        wide = Table((0,), tuple((n,) for n in range(1000)))
        for many in (100, 101):
            question = Question((0, 1), (wide, Table((1,), tuple((n,) for n in range(many)))))
            if many == 100:
                self.assertEqual(tree_answer(question, (None, 0))[1], (1000, 100000))
                self.assertEqual(tree_answer(question, (1, None))[1], (100, 100000))
            else:
                refused(self, TooMany, tree_answer, (question, (None, 0)), 100000)
                self.assertEqual(len(reduced(question, (None, 0))[0]), 1000)

    def test_a_row_without_answer_takes_all(self):
        question = Question((0, 1), (Table((0,), ((1,),)), Table((1,), ()), Table((0, 1), ((1, 1),))))
        self.assertEqual([len(part) for part in reduced(question, (2, 2, None))], [0, 0, 0])
        self.assertEqual(tree_answer(question, (2, 2, None)), (Table((0, 1), ()), (0, 0, 0)))


class WrongArgumentsTest(unittest.TestCase):
    LOTS = (InvalidLot, WRONG_LOTS[:-1] + (((0,),) * 13, ((1, 0),), ((0,), None), [(0,)], ([0],), ((True,),), ((6,),)))
    TREES = (InvalidOperation, WRONG_TREES)

    def test_webs(self):
        lots = (InvalidLot, tuple(value for value in self.LOTS[1] if value != ((0,), (1,))))
        check_wrongs(self, fold_answer, (TWIG,), ((lots,),))
        for value in ((None, 2, 0), ("folds", (None, 2, 0)), (0, 1, 2), None):
            for call in (is_tree, is_stuck, is_fold):
                check_wrongs(self, call, (TWIG, value), ((lots,), ()))
        trees = (InvalidOperation, tuple(tree for tree in self.TREES[1] if tree != (0, None)))
        check_wrongs(self, sequence_of, (((0, 1), (1, 2)), (None, 0)), ((lots,), (trees,)))
        refused(self, InvalidOperation, sequence_of, (SHUT, (None, 0, 0)))

    def test_questions(self):
        question = (InvalidQuestion, WRONG_QUESTIONS)
        trees = (InvalidOperation, tuple(tree for tree in self.TREES[1]))
        for call in (reduced, tree_answer):
            check_wrongs(self, call, (PAIR, (1, None)), ((question,), (trees,)))
            ring = Question((0, 1, 2), tuple(Table(lot, ()) for lot in SHUT))
            for tree in ((None, 0, 0), (None, 0, 1), (1, None, 1), (2, 2, None)):
                refused(self, InvalidOperation, call, (ring, tree))
        refused(self, InvalidQuestion, reduced, (SOME_TABLE, (0, None)))


class NotTrueTest(unittest.TestCase):
    """[16.5]"""

    def test_some_lots_of_a_web_that_folds_need_not_fold(self):
        self.assertEqual([fold_answer(web)[0] for web in (SHUT + ((0, 1, 2),), SHUT)], ["folds", "stuck"])

    def test_parts_that_agree_two_by_two_need_not_go_on(self):
        even, odd = ((0, 0), (1, 1)), ((0, 1), (1, 0))
        question = Question((0, 1, 2), (Table((0, 1), even), Table((1, 2), even), Table((0, 2), odd)))
        for one in question.parts:
            for other in question.parts:
                shared = [letter for letter in one.lot if letter in other.lot]
                self.assertEqual({part_of(one.lot, row, shared) for row in one.rows},
                                 {part_of(other.lot, row, shared) for row in other.rows})
        self.assertEqual(len(answer(question)), 0)

    def test_a_web_can_have_several_trees(self):
        self.assertGreater(len(all_trees(TWIG)), 1)
        self.assertTrue(all(is_tree(TWIG, tree) for tree in all_trees(TWIG)))

    def test_lots_without_a_common_letter_can_stand_one_above_the_other(self):
        self.assertIs(is_tree(((0,), (1,)), (1, None)), True)


if __name__ == "__main__":
    unittest.main()
