"""Tables cut in pieces [11.1] to [11.6]: crestjoin.flow.parts."""

import random
import unittest

from crestjoin.errors import InvalidLot, InvalidNumber, InvalidOperation, InvalidTable
from crestjoin.flow.parts import groups_of, is_parted, level_of, most_parts, parted, put_together
from crestjoin.table.joins import join
from crestjoin.table.tables import Table
from tests.support import (
    BOOLS, GREATEST, HUGE, LONG, LONG_NUMBERS, OBJECTS, ODD, SOME_TABLE, WRONG_LOTS, WRONG_TABLES, all_lots,
    check_judge, check_wrongs, part_of, refused, shown, wrong_numbers,
)

T = Table((0, 1), ((1, 1), (1, 2), (1, 3), (2, 1), (3, 1), (4, 5), (4, 6)))
BIG = join(Table((0,), tuple((n,) for n in range(1000))), Table((1,), tuple((n,) for n in range(100))))


def some_tables(seed, times):
    """Tables with groups of many sizes, the one without rows among them."""
    chance = random.Random(seed)
    yield Table((), ())
    yield Table((), ((),))
    yield Table((0, 3), ())
    for at in range(times):
        lot = ((2,), (0, 3), (1, 2, 5))[at % 3]
        rows = []
        for n in range(chance.randint(0, 12)):
            rows += [(n,) + tuple(chance.randint(0, 9) for _ in lot[1:])
                     for _ in range(chance.choice((1, 2, 3, 4, 5, 8, 9, 16)))]
        yield Table(lot, tuple(rows))


def groups_plainly(table, low):
    groups = {}
    for row in table.rows:
        groups.setdefault(part_of(table.lot, row, low), []).append(row)
    return {part: groups[part] for part in sorted(groups)}


def pieces_plainly(table, low, k):
    """The pieces of [11.2], word for word."""
    groups = groups_plainly(table, low)
    found = []
    for level in range(k + 1):
        of_level = [rows for rows in groups.values() if 2 ** level >= len(rows)
                    and (level == 0 or 2 ** (level - 1) < len(rows))]
        for some in (of_level[:2 ** (k - level)], of_level[2 ** (k - level):]):
            if some:
                found.append((level, tuple(sorted(row for rows in some for row in rows))))
    return found


def are_pieces_plainly(table, low, k, value):
    """Whether a tuple of pairs of a whole number and a table is pieces, from the words of [11.5]."""
    for j, piece in value:
        groups = groups_plainly(piece, low) if piece.lot == table.lot else {}
        if not 0 <= j <= k or piece.lot != table.lot or len(piece) == 0 or len(groups) > 2 ** (k - j):
            return False
        if max(len(rows) for rows in groups.values()) > 2 ** j:
            return False
    rows = [row for _, piece in value for row in piece.rows]
    return sorted(rows) == list(table.rows) and len(value) <= 2 * k + 1


class PiecesTest(unittest.TestCase):
    def cases(self):
        for table in some_tables(111, 60):
            for low in all_lots(table.lot):
                least = (max(len(table), 1) - 1).bit_length()
                for k in {least, least + 1, 20}:
                    yield table, low, k

    def test_groups_counted_from_the_rows(self):
        for table in some_tables(112, 40):
            for low in all_lots(table.lot):
                told = groups_of(table, low)
                self.assertEqual(told, {part: len(rows) for part, rows in groups_plainly(table, low).items()})
                self.assertEqual(list(told), sorted(told))
        self.assertEqual(groups_of(Table((), ((),)), ()), {(): 1})
        self.assertEqual(groups_of(Table((0,), ()), ()), {})

    def test_levels(self):
        """[11.1]"""
        self.assertEqual([level_of(n) for n in (1, 2, 3, 4, 5, 8, 9, 2 ** 20, 2 ** 20 + 1, GREATEST)],
                         [0, 1, 2, 2, 3, 3, 4, 20, 21, 30])
        for table, low, k in self.cases():
            levels = [level_of(n) for n in groups_of(table, low).values()]
            for j in set(levels):
                self.assertLessEqual(levels.count(j), 2 ** k if j == 0 else 2 * 2 ** (k - j) - 1)

    def test_told_pieces(self):
        """[11.2]"""
        seen = set()
        for table, low, k in self.cases():
            pieces = parted(table, low, k)
            self.assertEqual([(j, piece.rows) for j, piece in pieces], pieces_plainly(table, low, k))
            self.assertTrue(all(piece.lot == table.lot for _, piece in pieces))
            self.assertLessEqual(len(pieces), most_parts(k))
            self.assertTrue(are_pieces_plainly(table, low, k, pieces))
            self.assertIs(is_parted(table, low, k, pieces), True)
            for j, piece in pieces:
                groups = groups_plainly(piece, low)
                self.assertLessEqual(len(groups), 2 ** (k - j))
                self.assertLessEqual(max(len(rows) for rows in groups.values()), 2 ** j)
            if pieces:
                self.assertEqual(put_together(pieces), table)
            seen.add(len(pieces))
        self.assertTrue({0, 1, 2, 3, 4} <= seen)

    def test_more_groups_than_the_first_ones(self):
        wide = Table((0, 1), tuple((n, m) for n in range(5) for m in range(3)))
        self.assertEqual([(j, len(piece)) for j, piece in parted(wide, (0,), 4)], [(2, 12), (2, 3)])
        just = Table((0, 1), tuple((n, m) for n in range(4) for m in range(4)))
        self.assertEqual([(j, len(piece)) for j, piece in parted(just, (0,), 4)], [(2, 16)])
        self.assertEqual([(j, len(piece)) for j, piece in parted(just, (), 4)], [(4, 16)])
        self.assertEqual([(j, len(piece)) for j, piece in parted(just, (0, 1), 4)], [(0, 16)])

    def test_most_pieces(self):
        self.assertEqual([most_parts(k) for k in range(21)], [2 * k + 1 for k in range(21)])
        lone = Table((0,), ((5,),))
        self.assertEqual(parted(lone, (0,), 0), ((0, lone),))
        self.assertEqual(parted(lone, (), 0), ((0, lone),))

    def test_tables_of_very_many_rows(self):
        """A join can have more than 1,000 rows: k goes up to 20."""
        self.assertEqual(len(BIG), 100000)
        pieces = parted(BIG, (0,), 17)
        self.assertEqual([(j, len(piece)) for j, piece in pieces], [(7, 100000)])
        self.assertIs(is_parted(BIG, (0,), 17, pieces), True)
        self.assertEqual(len(parted(BIG, (1,), 20)), 1)
        refused(self, InvalidOperation, parted, (BIG, (0,), 16))
        self.assertEqual(put_together(((20, BIG), (0, SOME_TABLE))), put_together(((0, SOME_TABLE), (20, BIG))))
        self.assertEqual(len(put_together(((20, BIG), (0, SOME_TABLE)))), 100000)

    def test_why_it_is_cut(self):
        """[11.3]: in each piece both bounds together make no more than the table's own."""
        for table, low, k in self.cases():
            for j, piece in parted(table, low, k):
                most = max(len(rows) for rows in groups_plainly(piece, low).values())
                self.assertLessEqual((len(groups_plainly(piece, low)) - 1).bit_length() + (most - 1).bit_length(), k)


class JudgeTest(unittest.TestCase):
    def test_pieces_of_others(self):
        """[11.4], [11.5]"""
        def piece(*rows):
            return Table((0, 1), rows)

        rows = T.rows
        lone = tuple((0, piece(row)) for row in rows)
        right = [parted(T, (0,), 3), parted(T, (0,), 3)[::-1], lone[::-1], tuple((3, piece(row)) for row in rows),
                 ((2, piece(*rows[:3], *rows[5:])), (2, piece(*rows[3:5]))),
                 ((2, piece(*rows[:4])), (2, piece(*rows[4:]))), ((1, piece(*rows[1:3])),
                                                                  (1, piece(rows[0], *rows[3:5])),
                                                                  (3, piece(*rows[5:]))),
                 ((3, piece(*rows[:3])), (3, piece(rows[3])), (3, piece(rows[4])), (1, piece(*rows[5:])))]
        wrong = [((3, T),), ((2, T),), parted(T, (0,), 3)[:2], parted(T, (0,), 3) + parted(T, (0,), 3)[:1], lone[:-1],
                 (), lone + ((0, piece()),), ((4, piece(rows[0])),) + lone[1:], ((-1, piece(rows[0])),) + lone[1:],
                 ((HUGE, piece(rows[0])),) + lone[1:], ((0, Table((0, 2), (rows[0],))),) + lone[1:],
                 ((0, rows[:1]),) + lone[1:], ((None, piece(rows[0])),) + lone[1:], ((0, None),) + lone[1:],
                 ((0, piece(rows[0]), 0),) + lone[1:], ((0, piece(rows[0], (9, 9))),) + lone[1:],
                 ((0, piece(*rows[:2])),) + lone[2:], (None,) + lone[1:], ("0",) + lone[1:], ((0,),) + lone[1:], (0, T),
                 ((0, piece(rows[0])),) + lone, T, rows]
        for value in right:
            self.assertTrue(are_pieces_plainly(T, (0,), 3, value))
        self.assertEqual(len(lone), most_parts(3))
        check_judge(self, lambda value: is_parted(T, (0,), 3, value), right, wrong)

    def test_seven_pieces_and_eight_of_eight_rows(self):
        eight = Table((0, 1), tuple((n, m) for n in range(4) for m in range(2)))
        lone = tuple((0, Table((0, 1), (row,))) for row in eight.rows)
        self.assertEqual(most_parts(3), 7)
        two = ((1, Table((0, 1), eight.rows[:2])),)
        self.assertIs(is_parted(eight, (0,), 3, two + lone[2:]), True)
        self.assertIs(is_parted(eight, (0,), 3, lone), False)
        self.assertIs(is_parted(eight, (0,), 4, lone), True)

    def test_more_pieces_than_there_can_be(self):
        four = Table((0, 1), tuple((n, m) for n in (1, 2) for m in (1, 2)))
        pieces = tuple((0, Table((0, 1), (row,))) for row in four.rows)
        self.assertEqual((len(pieces), most_parts(1)), (4, 3))
        self.assertIs(is_parted(four, (0,), 2, pieces), True)
        two = Table((0, 1), ((1, 1), (2, 1)))
        self.assertIs(is_parted(two, (0,), 1, tuple((0, Table((0, 1), (row,))) for row in two.rows)), True)
        self.assertIs(is_parted(two, (0,), 1, ((0, two),)), True)
        self.assertIs(is_parted(two, (0,), 1, ((1, two),)), False)

    def test_tables_without_rows(self):
        none = Table((0, 1), ())
        self.assertEqual(parted(none, (0,), 0), ())
        check_judge(self, lambda value: is_parted(none, (0,), 0, value), [()], [((0, none),), ((0, T),), None])

    def test_drawn_pieces(self):
        chance = random.Random(113)
        seen = {True: 0, False: 0}
        for table in some_tables(114, 45):
            for low in all_lots(table.lot):
                k = (max(len(table), 1) - 1).bit_length()
                pieces = list(parted(table, low, k))
                for _ in range(4):
                    value = tuple((max(0, j + chance.choice((-1, 0, 0, 1))), Table(table.lot, tuple(
                        row for row in piece.rows if chance.random() < 0.97))) for j, piece in pieces)
                    right = are_pieces_plainly(table, low, k, value)
                    seen[right] += 1
                    self.assertIs(is_parted(table, low, k, value), right)
        self.assertGreater(min(seen.values()), 30)


class TogetherTest(unittest.TestCase):
    def test_rows_that_come_twice_stand_once(self):
        self.assertEqual(put_together(((0, T), (20, T))), T)
        self.assertEqual(put_together(((0, Table((0, 1), ())),)), Table((0, 1), ()))
        self.assertEqual(put_together(((3, T), (3, SOME_TABLE))).rows, tuple(sorted(T.rows + SOME_TABLE.rows[:2])))

    def test_one_piece_and_fifty(self):
        self.assertEqual(put_together(((0, T),)), T)
        self.assertEqual(put_together(((0, T),) * 50), T)
        for many in (0, 51):
            refused(self, InvalidOperation, put_together, (((0, T),) * many,))
        wide = tuple((0, Table((0,), tuple((1000 * n + m,) for m in range(1000)))) for n in range(50))
        self.assertEqual(len(put_together(wide)), 50000)


class WrongArgumentsTest(unittest.TestCase):
    def test_tables_lots_and_powers(self):
        table, low = (InvalidTable, WRONG_TABLES), (InvalidLot, WRONG_LOTS)
        k = (InvalidNumber, wrong_numbers(0, 20))
        check_wrongs(self, groups_of, (SOME_TABLE, (0,)), ((table,), (low,
                                                                      (InvalidOperation, ((2,), (0, 2), (0, 1, 2))))))
        check_wrongs(self, parted, (SOME_TABLE, (0,), 2), ((table,), (low,), (k,)))
        for value in ((), None):
            check_wrongs(self, is_parted, (SOME_TABLE, (0,), 2, value), ((table,), (low,), (k,), ()))
        check_wrongs(self, most_parts, (20,), ((k,),))
        check_wrongs(self, level_of, (1,), (((InvalidNumber, wrong_numbers(1)),),))

    def test_what_comes_behind_all_others(self):
        for call, more in ((parted, ()), (is_parted, ((),))):
            refused(self, InvalidOperation, call, (SOME_TABLE, (2,), 2) + more)
            refused(self, InvalidNumber, call, (SOME_TABLE, (2,), 21) + more, 21)
            refused(self, InvalidOperation, call, (SOME_TABLE, (0,), 1) + more)
            refused(self, InvalidNumber, call, (SOME_TABLE, (0,), -1) + more, -1)
            refused(self, InvalidTable, call, (None, (2,), -1) + more)

    def test_pieces(self):
        pieces = (InvalidOperation, ODD + OBJECTS + BOOLS + LONG_NUMBERS + (
            0, (), (0, T), ((0,),), ((0, T, 0),), [(0, T)], ([0, T],), ((0, None),), ((0, T.rows),), ((-1, T),),
            ((21, T),), ((True, T),), ((None, T),), (("0", T),), ((LONG, T),), ((T, 0),),
            ((0, T), (0, Table((0,), ((1,),)))), ((0, T), None), {0: T}, ((0, T), (0, Table((0, 2), ()))),
        ))
        check_wrongs(self, put_together, (((0, T),),), ((pieces,),))
        before = shown(T)
        put_together(((0, T), (0, SOME_TABLE)))
        self.assertEqual(shown(T), before)


class NotTrueTest(unittest.TestCase):
    """[11.6]"""

    def test_equally_many_rows_in_two_pieces(self):
        wide = Table((0, 1), tuple((n, m) for n in range(5) for m in range(3)))
        (one, first), (other, rest) = parted(wide, (0,), 4)
        self.assertEqual((one, other, groups_of(first, (0,))[(0,)], groups_of(rest, (0,))[(4,)]), (2, 2, 3, 3))

    def test_fewer_levels_need_not_have_fewer_rows_in_each_piece(self):
        even = Table((0, 1), tuple((n, m) for n in range(2) for m in range(4)))
        mixed = Table((0, 1), ((0, 0), (1, 0), (1, 1), (2, 0), (2, 1), (2, 2)))
        self.assertEqual(([len(piece) for _, piece in parted(even, (0,), 3)],
                          [len(piece) for _, piece in parted(mixed, (0,), 3)]),
                         ([8], [1, 2, 3]))

    def test_half_of_the_rows_need_not_be_a_piece(self):
        rows = tuple((0, m) for m in range(5)) + tuple((n, 0) for n in range(1, 12))
        table, halves = Table((0, 1), rows), (Table((0, 1), rows[:8]), Table((0, 1), rows[8:]))
        for one in range(5):
            for other in range(5):
                self.assertIs(is_parted(table, (0,), 4, ((one, halves[0]), (other, halves[1]))), False)
        self.assertEqual([(j, len(piece)) for j, piece in parted(table, (0,), 4)], [(0, 11), (3, 5)])

    def test_other_lots_have_other_pieces(self):
        one = Table((0, 1), ((0, 0), (0, 1), (0, 2), (1, 0)))
        self.assertEqual([j for j, _ in parted(one, (0,), 2)], [0, 2])
        self.assertEqual([j for j, _ in parted(one, (1,), 2)], [0, 1])


if __name__ == "__main__":
    unittest.main()
