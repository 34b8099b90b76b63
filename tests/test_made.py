"""Tables made of bits, and bounds that are reached [14.1] to [14.6]: crestjoin.reach.made."""

import random
import unittest
from itertools import combinations, product

from crestjoin.errors import (
    InvalidLot, InvalidNumber, InvalidOperation, InvalidRank, InvalidTold, TooMany,
)
from crestjoin.rank.degrees import exact_told, keeps, least_bound
from crestjoin.rank.ranks import parity_rank, step_rank
from crestjoin.reach import made
from crestjoin.reach.made import (
    are_vectors, beside, is_reached, made_table, reaching, step_counts, step_vectors, vector_rank,
)
from crestjoin.table.joins import answer
from crestjoin.table.tables import degree, project
from tests.support import (
    BOOLS, HUGE, LONG_NUMBERS, OBJECTS, ODD, WRONG_LOTS, all_lots, check_judge, check_wrongs, common, less, part_of,
    ranks_plainly, refused, shown, some_ranks, wrong_numbers, wrong_told,
)

ABC, FOUR = (0, 1, 2), (0, 1, 2, 3)
PARITY = ((1,), (2,), (3,))
LOTS = ((), (3,), (0, 4), ABC, (1, 2, 3, 5), (0, 1, 2, 3, 4))


def drawn_vectors(chance, lot, sources, most):
    return tuple(tuple(chance.randrange(2 ** sources) for _ in range(chance.randint(0, most))) for _ in lot)


def some_vectors(seed, times):
    """Vectors with 0, with one twice, and with sums of others among them."""
    chance = random.Random(seed)
    for lot in LOTS:
        yield lot, ((),) * len(lot)
        yield lot, ((0, 0),) * len(lot)
        yield lot, ((5, 5, 0, 1, 4),) * len(lot)
        for _ in range(times):
            yield lot, drawn_vectors(chance, lot, chance.choice((1, 3, 5, 8)), chance.choice((1, 2, 4)))


def rows_plainly(lot, vectors, sources=8):
    """The rows of all values of the sources, from the words of the document."""
    found = set()
    for values in range(2 ** sources):
        found.add(tuple(sum(2 ** i for i, vector in enumerate(some) if bin(vector & values).count("1") % 2)
                        for some in vectors))
    return sorted(found)


def rank_plainly(lot, vectors):
    """The rank by taking sums of those ahead, word for word."""
    found = {}
    for some in all_lots(lot):
        sums, many = {0}, 0
        for letter in some:
            for vector in vectors[lot.index(letter)]:
                if vector not in sums:
                    many += 1
                    sums |= {vector ^ other for other in sums}
        found[some] = many
    return found


def counts_plainly(lot, h):
    """c(S), word for word."""
    return {S: sum((-1) ** (len(S) - len(Z)) * (h[lot] - h[less(lot, Z)]) for Z in all_lots(S))
            for S in all_lots(lot)[1:]}


class VectorTest(unittest.TestCase):
    def test_are_vectors(self):
        """[14.1]"""
        right = [PARITY, ((), (), ()), ((0,), (4095,), (7, 7, 0)), ((4095,) * 12,) * 3, (tuple(range(12)), (), (1,))]
        wrong = [PARITY[:2], PARITY + ((1,),), ((4096,), (), ()), ((-1,), (), ()), ((1,) * 13, (), ()), (1, 2, 3),
                 ((1,), (2,), None), ((1,), (2,), ("3",)), ((1,), (2,), ((3,),)), {0: (1,), 1: (2,), 2: (3,)},
                 ((HUGE,), (), ()), ((1,), (2,), {})]
        check_judge(self, lambda value: are_vectors(ABC, value), right, wrong)
        check_judge(self, lambda value: are_vectors((), value), [()], [((),), (1,)])
        check_judge(self, lambda value: are_vectors((4,), value), [((),), ((0, 1),)], [(), (0,), ((0, 4096),)])
        self.assertEqual((made.MOST_SOURCES, made.MOST_VECTORS), (12, 12))

    def test_ranks_by_taking_sums(self):
        """[14.2]: also in any sequence, and it is a rank."""
        chance = random.Random(141)
        for lot, vectors in some_vectors(142, 8):
            told = vector_rank(lot, vectors)
            self.assertEqual(told, rank_plainly(lot, vectors))
            self.assertEqual(list(told), all_lots(lot))
            self.assertTrue(ranks_plainly(lot, told))
            mixed = tuple(tuple(chance.sample(some, len(some))) for some in vectors)
            self.assertEqual(vector_rank(lot, mixed), told)
        whole = tuple(2 ** i for i in range(12))
        self.assertEqual(vector_rank((3,), (whole,)), {(): 0, (3,): 12})
        self.assertEqual(vector_rank((0, 1), (whole, whole))[(0, 1)], 12)

    def test_made_tables_by_all_values(self):
        """[14.1], [14.3]: as many rows as 2 to the power of the rank, above each row as many."""
        for lot, vectors in some_vectors(143, 8):
            h = rank_plainly(lot, vectors)
            if h[lot] > 9:
                refused(self, TooMany, made_table, (lot, vectors), 1000)
                continue
            table = made_table(lot, vectors)
            self.assertEqual(table.rows, tuple(rows_plainly(lot, vectors)))
            for high in all_lots(lot):
                self.assertEqual(len(project(table, high)), 2 ** h[high])
                for low in all_lots(high):
                    above = {}
                    for row in table.rows:
                        above.setdefault(part_of(lot, row, low), set()).add(part_of(lot, row, high))
                    self.assertEqual({len(some) for some in above.values()}, {2 ** (h[high] - h[low])})
                    self.assertEqual(degree(table, low, high), 2 ** (h[high] - h[low]))

    def test_a_thousand_rows_and_more(self):
        nine = tuple(2 ** i for i in range(9))
        self.assertEqual(len(made_table((2,), (nine,))), 512)
        self.assertEqual(len(made_table((2, 3), (nine, nine[::-1]))), 512)
        self.assertEqual(made_table((2,), (nine + (1, 2, 3),)).rows[-1][0].bit_length(), 12)
        for more in (nine + (512,), nine + (4095,)):
            refused(self, TooMany, made_table, ((2,), (more,)), 1000)
        refused(self, TooMany, reaching, ((2,), ((2,),), (nine + (512,),)), 1000)
        self.assertEqual(made_table((), ()).rows, ((),))
        self.assertEqual(made_table((0, 3), ((), (0,))).rows, ((0, 0),))


class StepTest(unittest.TestCase):
    def test_steps(self):
        """[14.4]: the vectors of one source have a step as their rank."""
        for lot in LOTS:
            for some in all_lots(lot)[1:]:
                vectors = step_vectors(lot, {some: 1})
                self.assertEqual(vectors, tuple((1,) if letter in some else () for letter in lot))
                self.assertEqual(vector_rank(lot, vectors), step_rank(lot, some))

    def test_step_vectors(self):
        """[14.4]: sources from 0 on, to lots in Python's order."""
        chance = random.Random(144)
        for lot in LOTS[1:]:
            for _ in range(12):
                counts, left = {}, 12
                for some in chance.sample(all_lots(lot)[1:], min(len(all_lots(lot)) - 1, 4)):
                    counts[some] = chance.randint(0, min(left, 5))
                    left -= counts[some]
                owners = [some for some in sorted(counts) for _ in range(counts[some])]
                vectors = step_vectors(lot, counts)
                self.assertEqual(vectors, tuple(tuple(2 ** s for s, some in enumerate(owners) if letter in some)
                                                for letter in lot))
                self.assertIs(are_vectors(lot, vectors), True)
                h = {x: sum(1 for some in owners if common(x, some)) for x in all_lots(lot)}
                self.assertEqual(vector_rank(lot, vectors), h)
                told = {some: 0 for some in all_lots(lot)[1:]}
                self.assertEqual(step_counts(lot, h), {**told, **counts})
        self.assertEqual(step_vectors(ABC, {}), ((), (), ()))
        self.assertEqual(step_vectors((), {}), ())

    def test_twelve_and_thirteen(self):
        self.assertEqual(len(step_vectors((0, 1), {(0,): 5, (0, 1): 7})[0]), 12)
        self.assertEqual(step_vectors((0,), {(0,): 12}), (tuple(2 ** s for s in range(12)),))
        refused(self, TooMany, step_vectors, ((0, 1), {(0,): 6, (0, 1): 7}), 12)
        refused(self, TooMany, step_vectors, ((0,), {(0,): 999999999}), 12)

    def test_beside(self):
        """[14.4]: the sum of both ranks."""
        cases = list(some_vectors(145, 6))
        seen = set()
        for (lot, one), (_, other) in zip(cases, cases[1:]):
            if len(one) != len(other):
                continue
            m, n = [max([vector.bit_length() for some in vectors for vector in some], default=0)
                    for vectors in (one, other)]
            longest = max([len(a) + len(b) for a, b in zip(one, other)], default=0)
            seen.add((m + n > 12, longest > 12))
            if m + n > 12 or longest > 12:
                refused(self, TooMany, beside, (lot, one, other), 12)
                continue
            both = beside(lot, one, other)
            self.assertEqual(both, tuple(a + tuple(vector * 2 ** m for vector in b) for a, b in zip(one, other)))
            hs = [rank_plainly(lot, vectors) for vectors in (one, other, both)]
            self.assertEqual(hs[2], {some: hs[0][some] + hs[1][some] for some in hs[0]})
        self.assertEqual(seen & {(False, False), (True, False)}, {(False, False), (True, False)})

    def test_beside_just_at_the_most(self):
        six = tuple(2 ** i for i in range(6))
        self.assertEqual(beside((0,), (six,), (six,)), (tuple(2 ** i for i in range(12)),))
        refused(self, TooMany, beside, ((0,), (six,), (six[:1] * 7,)), 12)
        refused(self, TooMany, beside, ((0, 1), (six, ()), ((), (64,))), 12)
        refused(self, TooMany, beside, ((0, 1), ((1,) * 6, ()), ((1,) * 7, ())), 12)
        self.assertEqual(beside((0, 1), ((0,) * 6, ()), ((4095,) * 6, (1,))), ((0,) * 6 + (4095,) * 6, (1,)))
        self.assertEqual(beside((0, 1), ((), (4095,)), ((0,), ())), ((0,), (4095,)))
        refused(self, TooMany, beside, ((0, 1), ((), (4095,)), ((1,), ())), 12)
        self.assertEqual(beside((), (), ()), ())

    def test_sums_of_steps_in_just_one_way(self):
        """[14.4]"""
        for lot in LOTS:
            for h in some_ranks(lot, 146, 8):
                counts = step_counts(lot, h)
                self.assertEqual(counts, counts_plainly(lot, h))
                self.assertEqual(list(counts), all_lots(lot)[1:])
                again = {x: sum(n for S, n in counts.items() if common(x, S)) for x in all_lots(lot)}
                self.assertEqual(again, h)
        self.assertEqual(step_counts(ABC, parity_rank(ABC, ABC))[ABC], -1)
        self.assertEqual(step_counts((), {(): 0}), {})

    def test_vectors_of_a_rank_with_no_count_below_nought(self):
        """[14.4]: h(L) at most 12 is the rank of vectors; with one below 0 it can be so all the same."""
        chance = random.Random(147)
        for lot in LOTS[1:]:
            for _ in range(10):
                counts = {some: chance.randint(0, 2) for some in chance.sample(all_lots(lot)[1:],
                                                                               min(4, 2 ** len(lot) - 1))}
                h = {x: sum(n for S, n in counts.items() if common(x, S)) for x in all_lots(lot)}
                self.assertEqual(vector_rank(lot, step_vectors(lot, step_counts(lot, h))), h)
        self.assertEqual(vector_rank(ABC, PARITY), parity_rank(ABC, ABC))


class ReachTest(unittest.TestCase):
    def test_reaching_questions(self):
        """[14.5]: each row of the made table is a row of the answer."""
        chance = random.Random(148)
        seen = {True: 0, False: 0}
        for lot, vectors in some_vectors(149, 4):
            if vector_rank(lot, vectors)[lot] > 7:
                continue
            for _ in range(4):
                lots = tuple(chance.choice(all_lots(lot)) for _ in range(chance.randint(1, 4)))
                lots += (tuple(letter for letter in lot if not any(letter in some for some in lots)),)
                question = reaching(lot, lots, vectors)
                table = made_table(lot, vectors)
                self.assertEqual((question.lot, question.lots), (lot, lots))
                rows = rows_plainly(lot, vectors)
                for part in question.parts:
                    self.assertEqual(part.rows, tuple(sorted({part_of(lot, row, part.lot) for row in rows})))
                told = answer(question)
                self.assertTrue(set(table.rows) <= set(told.rows))
                self.assertGreaterEqual(len(told), 2 ** vector_rank(lot, vectors)[lot])
                seen[len(told) == len(table)] += 1
        self.assertGreater(min(seen.values()), 10)

    def test_bounds_that_are_reached(self):
        """[14.5]: where the rank of a least bound is one of vectors, the answer has just so many rows."""
        seen = 0
        for lot, lots in ((ABC, tuple(combinations(ABC, 2))), (FOUR, ((0, 1), (1, 2), (2, 3))),
                          (ABC, ((0, 1), (1, 2)))):
            for numbers in product((0, 1, 2), repeat=len(lot)):
                vectors, at = [], 0
                for n in numbers:
                    vectors.append(tuple(2 ** (at + i) for i in range(n)))
                    at += n
                question = reaching(lot, lots, tuple(vectors))
                told = exact_told(question, tuple(((), some) for some in lots))
                p, D = least_bound(lot, told)[1]
                reached = is_reached(lot, told, tuple(vectors), p, D)
                self.assertIs(reached, D * sum(numbers) == p)
                if reached:
                    seen += 1
                    self.assertEqual(len(answer(question)) ** D, 2 ** p)
        self.assertGreater(seen, 30)
        question = reaching(ABC, tuple(combinations(ABC, 2)) + (ABC,), PARITY)
        told = exact_told(question, (((), (0, 1)), ((0, 1), ABC)))
        self.assertEqual(least_bound(ABC, told)[1], (2, 1))
        self.assertIs(is_reached(ABC, told, PARITY, 2, 1), True)
        self.assertEqual(len(answer(question)), 4)

    def test_is_reached(self):
        chance = random.Random(1410)
        seen = {True: 0, False: 0}
        for lot, vectors in some_vectors(1411, 5):
            h = rank_plainly(lot, vectors)
            pairs = [(low, high) for high in all_lots(lot) for low in all_lots(high) if low != high]
            for _ in range(6):
                chosen = chance.sample(pairs, min(len(pairs), 4))
                told = tuple((low, high, max(0, h[high] - h[low] + chance.choice((0, 0, 0, 1, -1)))) for low,
                             high in chosen)
                D = chance.randint(1, 3)
                p = D * h[lot] + chance.choice((0, 0, 1))
                right = p == D * h[lot] and all(h[high] - h[low] <= k for low, high, k in told)
                seen[right] += 1
                self.assertIs(is_reached(lot, told, vectors, p, D), right)
                if lot and h[lot] <= 9:
                    question = reaching(lot, (lot,), vectors)
                    self.assertEqual(all(keeps(question, told)), all(h[high] - h[low] <= k for low, high, k in told))
        self.assertGreater(min(seen.values()), 40)
        self.assertIs(is_reached((), (), (), 0, 1), True)
        self.assertIs(is_reached((), (), (), 1, 1), False)


class WrongArgumentsTest(unittest.TestCase):
    LOT = (InvalidLot, WRONG_LOTS + ((0, 1, 2, 3, 4, 5),))
    VECTORS = (InvalidOperation, ODD + OBJECTS + BOOLS + LONG_NUMBERS + (
        0, (), ((1,),), ((1,), (2,), (3,)), ((4096,), ()), ((-1,), ()), ((True,), ()), ((1,), (False,)),
        ((1,) * 13, ()), [(1,), (2,)], ((1,), [2]), (1, 2), ((1,), None), ((1,), ("2",)), ((HUGE,), ()),
        {0: (1,), 1: (2,)},
    ))
    RIGHT = ((1,), (1, 3))

    def test_vectors(self):
        vectors = (self.VECTORS,)
        for value in (self.RIGHT, None):
            check_wrongs(self, are_vectors, ((0, 1), value), ((self.LOT,), ()))
        for call in (vector_rank, made_table):
            check_wrongs(self, call, ((0, 1), self.RIGHT), ((self.LOT,), vectors))
        check_wrongs(self, beside, ((0, 1), self.RIGHT, self.RIGHT), ((self.LOT,), vectors, vectors))

    def test_counts_and_ranks(self):
        counts = (InvalidOperation, ODD[:8] + ODD[9:] + OBJECTS + BOOLS + LONG_NUMBERS + (
            0, (), {(): 1}, {(2,): 1}, {(0,): -1}, {(0,): True}, {(0,): None}, {(0,): "1"}, {(0,): 10 ** 9},
            {(True,): 1}, {(1, 0): 1}, {None: 1}, {0: 1}, (((0,), 1),), {(0,): 1, (5,): 0}, {(0,): 13, (2,): 1},
            {(0,): HUGE},
        ))
        check_wrongs(self, step_vectors, ((0, 1), {(0,): 1}), ((self.LOT,), (counts,)))
        h = step_rank((0, 1), (0, 1))
        rank = (InvalidRank, ODD + OBJECTS + BOOLS + LONG_NUMBERS + (
            0, (), {(): 0}, {**h, (): 1}, {**h, (0, 1): 0}, {**h, (0,): True}, {**h, (2,): 1}, tuple(h.items())))
        check_wrongs(self, step_counts, ((0, 1), {some: HUGE * n for some, n in h.items()}), ((self.LOT,), (rank,)))

    def test_reaching(self):
        lots = (InvalidLot, ODD + OBJECTS + BOOLS + LONG_NUMBERS + (
            0, (), (0,), (0, 1), ((0, 1),) * 13, ((1, 0),), ((True,),), ((0,), None), [(0, 1)], ([0, 1],), ((6,),),
            ((0, 0),),
        ))
        check_wrongs(self, reaching, ((0, 1), ((0,), (1,)), self.RIGHT), ((self.LOT,), (lots,), (self.VECTORS,)))
        for wrong in (((0,),), ((0, 1), (2,)), ((),), ((0, 1, 2),), ((5,),)):
            refused(self, InvalidOperation, reaching, ((0, 1), wrong, self.RIGHT))
            refused(self, InvalidOperation, reaching, ((0, 1), wrong, None))
        great = (tuple(2 ** i for i in range(12)), ())
        refused(self, InvalidOperation, reaching, ((0, 1), ((0,),), great))
        refused(self, TooMany, reaching, ((0, 1), ((0,), (1,)), great), 1000)
        self.assertEqual(len(reaching((0, 1), ((0, 1),) * 12, self.RIGHT).parts), 12)

    def test_is_reached(self):
        told = (InvalidTold, wrong_told((0, 1)))
        p, D = (InvalidNumber, wrong_numbers(0)), (InvalidNumber, wrong_numbers(1))
        check_wrongs(self, is_reached, ((0, 1), (((), (0,), 1),), self.RIGHT, 2, 1),
                     ((self.LOT,), (told,), (self.VECTORS,), (p,), (D,)))

    def test_nothing_is_changed(self):
        before = shown(self.RIGHT)
        beside((0, 1), self.RIGHT, self.RIGHT)
        made_table((0, 1), self.RIGHT)
        self.assertEqual(shown(self.RIGHT), before)


class NotTrueTest(unittest.TestCase):
    """[14.6]"""

    def test_two_of_four_is_no_rank_of_vectors(self):
        """Four letters, each two of them 2 together, would need four unlike vectors but 0 that two make."""
        h = {some: min(len(some), 2) for some in all_lots(FOUR)}
        self.assertTrue(ranks_plainly(FOUR, h))
        for vectors in product(range(4), repeat=4):
            self.assertNotEqual(vector_rank(FOUR, tuple((vector,) for vector in vectors)), h)
        twice = {some: 2 * n for some, n in h.items()}
        # Of the field with four numbers, each as two bits: (1, 0), (0, 1), (1, 1), (1, w).
        vectors = ((1, 2), (4, 8), (1 ^ 4, 2 ^ 8), (1 ^ 8, 2 ^ 4 ^ 8))
        self.assertEqual(vector_rank(FOUR, vectors), twice)

    def test_the_answer_need_not_be_the_made_table(self):
        question = reaching(ABC, tuple(combinations(ABC, 2)), PARITY)
        self.assertEqual((len(answer(question)), len(made_table(ABC, PARITY))), (8, 4))


if __name__ == "__main__":
    unittest.main()
