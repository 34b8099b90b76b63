"""Rows and tables [2.1] to [2.5], and the functions of crestjoin.table.tables."""

import unittest

from crestjoin.errors import InvalidLot, InvalidNumber, InvalidOperation, InvalidTable
from crestjoin.table import tables
from crestjoin.table.tables import (
    Table, above, choose, common, degree, is_row, less, project, renamed, section, united,
)
from tests.support import (
    GREATEST, HUGE, LONG, LONGEST, SOME_TABLE, WRONG_LOTS, WRONG_TABLES, all_lots, all_rows, check_judge, check_wrongs,
    part_of, refused, tables_on, wrong_numbers, wrong_tuples,
)

T = Table((0, 2), ((1, 7), (1, 5), (3, 5), (1, 7)))
WRONG_ROWS = tuple(value for value in WRONG_TABLES if value not in ((), ((0, 1),))) + (
    [(1, 2)], ((1,),), ((1, 2, 3),), ((1, 2), (1,)), ([1, 2],), ((1, LONG),), ((True, 1),), ((0, False),), (None,),
    ((1, "2"),), ({0: 1, 2: 2},), ((1, 2), None), tuple([(n, 0) for n in range(1001)]), ((0, 0),) * 1001,
)
FAMILY = tables_on((0, 2, 3), (0, 1, 2), 1, 12) + tables_on((1, 4), (-1, 5, 8), 2, 6) + tables_on((5,), (0, 1), 3, 3)
FAMILY = FAMILY + [Table((), ()), Table((), ((),)), T]


def counted(table, low, high):
    """How many rows on `high` are above each row on `low`, from plain rows."""
    ends = {}
    for row in table.rows:
        ends.setdefault(part_of(table.lot, row, low), set()).add(part_of(table.lot, row, high))
    return {part: len(ends[part]) for part in ends}


def degree_of(table, low, high):
    return max(counted(table, low, high).values(), default=0)


def chains(lot, many):
    """All tuples of so many lots, each within the next one, the last one within the lot."""
    found = [()]
    for _ in range(many):
        found = [chain + (some,) for chain in found for some in all_lots(lot) if not chain or set(chain[-1]) <= set(some)]
    return found


class TableTest(unittest.TestCase):
    def test_constants(self):
        self.assertEqual((tables.MOST_ROWS, tables.MAX_DIGITS), (1000, 9))

    def test_rows_are_ascending_and_stand_once(self):
        self.assertEqual((T.lot, T.rows, len(T)), ((0, 2), ((1, 5), (1, 7), (3, 5)), 3))
        self.assertEqual(Table((), ((), (), ())).rows, ((),))
        self.assertEqual(Table((), ()).rows, ())
        self.assertEqual(Table((0,), ((GREATEST,), (-GREATEST,), (0,))).rows, ((-GREATEST,), (0,), (GREATEST,)))

    def test_a_thousand_rows_and_one_more(self):
        rows = tuple((n, -n, n, 0, n, 1) for n in range(1000))
        six = Table((0, 1, 2, 3, 4, 5), rows[::-1])
        self.assertEqual((len(six), six.rows), (1000, rows))
        self.assertEqual(len(Table((0,), ((7,),) * 1000)), 1)
        refused(self, InvalidTable, Table, ((0,), tuple((n,) for n in range(1001))))
        refused(self, InvalidTable, Table, ((0,), ((7,),) * 1001))

    def test_texts(self):
        self.assertEqual(str(T), "table on 0 2, 3 rows")
        self.assertEqual(str(Table((), ((),))), "table on no letters, 1 rows")
        self.assertEqual(str(Table((0, 1, 2, 3, 4, 5), ())), "table on 0 1 2 3 4 5, 0 rows")

    def test_in(self):
        for table in FAMILY:
            wrong = all_rows(table.lot, (0, 1, 2, 5, -1)) + [(HUGE,) * len(table.lot), (LONG,) * len(table.lot)]
            check_judge(self, lambda value, table=table: value in table, table.rows,
                        [row for row in wrong if row not in set(table.rows)])
        self.assertFalse((1,) in T or (1, 7, 7) in T or 1 in T or [1, 7] in T or ([], {}) in T)
        self.assertFalse((True, 7) in T)
        self.assertTrue((True, 7) not in T)

    def test_equality(self):
        for one in FAMILY:
            for other in FAMILY:
                same = one.lot == other.lot and one.rows == other.rows
                self.assertIs(one == other, same)
                self.assertIs(one != other, not same)
        self.assertTrue(T == Table((0, 2), T.rows[::-1]))
        self.assertFalse(Table((0,), ((1,),)) == Table((1,), ((1,),)))
        for value in WRONG_TABLES:
            self.assertIs(T == value, False)
            self.assertIs(T != value, True)

    def test_it_never_changes(self):
        for name, value in (("lot", (0,)), ("rows", ())):
            with self.assertRaises(AttributeError):
                setattr(T, name, value)
        self.assertEqual((T.lot, T.rows), ((0, 2), ((1, 5), (1, 7), (3, 5))))

    def test_it_cannot_be_iterated_over(self):
        for table in FAMILY:
            with self.assertRaises(TypeError):
                iter(table)

    def test_wrong_arguments(self):
        check_wrongs(self, Table, ((0, 2), ((1, 2),)), (((InvalidLot, WRONG_LOTS),), ((InvalidTable, WRONG_ROWS),)))

    def test_is_row(self):
        for lot in ((), (3,), (0, 5), (0, 1, 2, 3, 4, 5)):
            rows = [(0,) * len(lot), (1,) * len(lot), (GREATEST,) * len(lot), (-GREATEST,) * len(lot)]
            wrong = [(0,) * (len(lot) + 1), "0" * len(lot), {letter: 0 for letter in lot}, None]
            wrong += [(0,) * (len(lot) - 1) + (n,) for n in (LONG, -LONG, LONGEST, HUGE, None, "1", (1,)) if lot]
            check_judge(self, lambda value, lot=lot: is_row(lot, value), rows, wrong)
        for value in ((1,), None, ()):
            check_wrongs(self, is_row, ((0,), value), (((InvalidLot, WRONG_LOTS),), ()))


class PartsTest(unittest.TestCase):
    def test_projections_by_plain_parts(self):
        """[2.1]"""
        for table in FAMILY:
            for lesser, greater in chains(table.lot, 2):
                rows = sorted(set(part_of(table.lot, row, greater) for row in table.rows))
                led = project(table, greater)
                self.assertEqual((led.lot, led.rows), (greater, tuple(rows)))
                self.assertEqual(project(led, lesser), project(table, lesser))

    def test_projected_to_no_letters(self):
        self.assertEqual(project(T, ()).rows, ((),))
        self.assertEqual(project(Table((0, 2), ()), ()).rows, ())

    def test_above_and_degrees_by_counting(self):
        """[2.2]"""
        for table in FAMILY:
            for low, high in chains(table.lot, 2):
                counts = counted(table, low, high)
                self.assertEqual(above(table, low, high), counts)
                self.assertEqual(list(above(table, low, high)), sorted(counts))
                self.assertEqual(degree(table, low, high), degree_of(table, low, high))
                on_low, on_high = len(project(table, low)), len(project(table, high))
                self.assertEqual(degree(table, (), high), on_high)
                self.assertLessEqual(on_high, on_low * degree(table, low, high))
                self.assertGreaterEqual(on_high, max(on_low, degree(table, low, high)))

    def test_degrees_without_rows(self):
        for low, high in chains((0, 1), 2):
            self.assertEqual(degree(Table((0, 1), ()), low, high), 0)
            self.assertEqual(above(Table((0, 1), ()), low, high), {})

    def test_degrees_go_on(self):
        """[2.3]"""
        for table in FAMILY:
            for low, mid, high in chains(table.lot, 3):
                self.assertLessEqual(degree(table, low, high), degree(table, low, mid) * degree(table, mid, high))
            for low, high in chains(table.lot, 2):
                for more in all_lots(table.lot):
                    with_more = [tuple(sorted(set(lot + more))) for lot in (low, high)]
                    self.assertLessEqual(degree(table, *with_more), degree(table, low, high))
                for some in (table.rows[::2], table.rows[:1], table.rows[1:]):
                    self.assertLessEqual(degree(Table(table.lot, some), low, high), degree(table, low, high))

    def test_sections(self):
        """[2.4]"""
        for table in FAMILY:
            for low in all_lots(table.lot):
                rest = tuple(letter for letter in table.lot if letter not in low)
                sizes = []
                for row in project(table, low).rows:
                    found = section(table, low, row)
                    plain = [part_of(table.lot, whole, rest) for whole in table.rows
                             if part_of(table.lot, whole, low) == row]
                    self.assertEqual((found.lot, found.rows), (rest, tuple(sorted(plain))))
                    sizes.append(len(found))
                self.assertEqual(sum(sizes), len(table))
                self.assertEqual(max(sizes, default=0), degree(table, low, table.lot))
        self.assertEqual(section(T, (0,), (2,)), Table((2,), ()))
        self.assertEqual(section(T, (0, 2), (3, 7)), Table((), ()))

    def test_choose(self):
        for table in FAMILY:
            for place, letter in enumerate(table.lot):
                for number in (-1, 0, 1, 5, GREATEST, -GREATEST):
                    rows = tuple(row for row in table.rows if row[place] == number)
                    self.assertEqual(choose(table, letter, number), Table(table.lot, rows))

    def test_united_common_and_less(self):
        for lot in ((), (0,), (1, 3)):
            for one in tables_on(lot, (0, 1, 2), 5, 6):
                for other in tables_on(lot, (1, 2, 3), 6, 6):
                    left, right = set(one.rows), set(other.rows)
                    self.assertEqual(united(one, other), Table(lot, tuple(left | right)))
                    self.assertEqual(common(one, other), Table(lot, tuple(left & right)))
                    self.assertEqual(less(one, other), Table(lot, tuple(left - right)))

    def test_united_can_have_more_than_a_thousand_rows(self):
        one = Table((0,), tuple((n,) for n in range(1000)))
        both = united(one, Table((0,), tuple((n,) for n in range(500, 1500))))
        self.assertEqual((len(both), both.rows), (1500, tuple((n,) for n in range(1500))))

    def test_renamed(self):
        for table in FAMILY:
            for names in ({letter: 5 - letter for letter in table.lot}, {letter: letter for letter in table.lot},
                          dict(zip(table.lot, (3, 0, 5)))):
                led = renamed(table, names)
                self.assertEqual(led.lot, tuple(sorted(names.values())))
                back = {name: letter for letter, name in names.items()}
                plain = [tuple(part_of(table.lot, row, (back[letter],))[0] for letter in led.lot) for row in table.rows]
                self.assertEqual(led.rows, tuple(sorted(plain)))
                self.assertEqual(renamed(led, back), table)


class WrongArgumentsTest(unittest.TestCase):
    TABLES = (InvalidTable, WRONG_TABLES)
    LOTS = (InvalidLot, WRONG_LOTS)

    def test_lots(self):
        check_wrongs(self, project, (T, (0,)), ((self.TABLES,), (self.LOTS,)))
        for call in (degree, above):
            check_wrongs(self, call, (T, (0,), (0, 2)), ((self.TABLES,), (self.LOTS,), (self.LOTS,)))

    def test_lots_that_are_not_within_come_behind_all_lots(self):
        for lot in ((1,), (0, 1), (0, 1, 2)):
            refused(self, InvalidOperation, project, (T, lot))
            for call in (degree, above):
                refused(self, InvalidOperation, call, (T, (), lot))
                refused(self, InvalidOperation, call, (T, lot, lot))
                refused(self, InvalidLot, call, (T, lot, (1, 0)))
        for call in (degree, above):
            refused(self, InvalidOperation, call, (T, (0, 2), (0,)))
            refused(self, InvalidOperation, call, (T, (2,), (0,)))

    def test_choose(self):
        letters = wrong_numbers(0, 5) + (1, 3, 4, 5)
        number = (InvalidNumber, wrong_numbers(-GREATEST))
        check_wrongs(self, choose, (T, 2, 5), ((self.TABLES,), ((InvalidNumber, letters),), (number,)))
        refused(self, InvalidNumber, choose, (Table((), ((),)), 0, 0), 0)

    def test_section(self):
        lots = (self.LOTS, (InvalidOperation, ((1,), (0, 1), (0, 1, 2), (5,))))
        check_wrongs(self, section, (T, (0,), (1,)), ((self.TABLES,), lots, ((InvalidTable, wrong_tuples((1,))),)))
        refused(self, InvalidTable, section, (T, (), (1,)))

    def test_two_tables(self):
        for call in (united, common, less):
            check_wrongs(self, call, (T, T), ((self.TABLES,), (self.TABLES,)))
            for other in (Table((0,), ()), Table((0, 1), T.rows), Table((), ()), Table((0, 1, 2), ())):
                refused(self, InvalidOperation, call, (T, other))
                refused(self, InvalidOperation, call, (other, T))

    def test_renamed(self):
        one = Table((0, 1), SOME_TABLE.rows)
        names = ([], (), None, "01", 0, True, {}, {0: 1}, {0: 1, 1: 1}, {0: 1, 1: 6}, {0: 1, 1: -1}, {0: 1, 1: True},
                 {0: 1, True: 2}, {False: 0, 1: 1}, {0: 1, 1: None}, {0: 1, 1: (2,)}, {0: 1, "1": 2}, {0: 1, 2: 3},
                 {0: 0, 1: 1, 2: 2}, {0: 1, 1: LONGEST}, {0: 1, (1,): 2}, {0: 1, None: 2}, {0: 1, 1: []}, one)
        check_wrongs(self, renamed, (one, {0: 1, 1: 0}), ((self.TABLES,), ((InvalidOperation, names),)))
        refused(self, InvalidOperation, renamed, (Table((), ()), {0: 0}))
        self.assertEqual(renamed(Table((), ((),)), {}), Table((), ((),)))


class NotTrueTest(unittest.TestCase):
    """[2.5]"""

    def test_a_table_is_not_told_by_its_projections_to_two_letters(self):
        full = Table((0, 1, 2), tuple(all_rows((0, 1, 2), (0, 1))))
        even = Table((0, 1, 2), tuple(row for row in full.rows if sum(row) % 2 == 0))
        self.assertNotEqual(full, even)
        for lot in ((0, 1), (0, 2), (1, 2)):
            self.assertEqual(project(full, lot), project(even, lot))

    def test_degrees_can_stay_without_a_row(self):
        full = Table((0, 1), ((1, 1), (1, 2), (2, 1), (2, 2)))
        self.assertEqual(degree(full, (0,), (0, 1)), degree(Table((0, 1), full.rows[1:]), (0,), (0, 1)))

    def test_degrees_multiplied_can_be_more_than_the_rows(self):
        self.assertLess(len(T), degree(T, (0,), (0, 2)) * degree(T, (), (0,)))


if __name__ == "__main__":
    unittest.main()
