"""Letters and lots [0.7], and the functions of crestjoin.base.lots."""

import unittest

from crestjoin.base.lots import are_apart, common_lot, is_lot, is_within, joined_lot, lots_on, lots_within, rest_lot
from crestjoin.errors import InvalidLot, InvalidOperation
from tests.support import HUGE, ODD, OBJECTS, WRONG_LOTS, all_lots, check_judge, check_wrongs, refused

SIX = (0, 1, 2, 3, 4, 5)
LOTS = all_lots(SIX)


class LotsTest(unittest.TestCase):
    def test_is_lot(self):
        check_judge(self, is_lot, LOTS, WRONG_LOTS + ((HUGE,), (0, HUGE), (-HUGE,), SIX + (6,)))

    def test_there_are_sixty_four(self):
        self.assertEqual(len(LOTS), 64)
        self.assertEqual(lots_within(SIX), tuple(LOTS))

    def test_two_lots_by_their_letters(self):
        for one in LOTS:
            for other in LOTS:
                self.assertEqual(joined_lot(one, other), tuple(x for x in SIX if x in one or x in other))
                self.assertEqual(common_lot(one, other), tuple(x for x in SIX if x in one and x in other))
                self.assertEqual(rest_lot(one, other), tuple(x for x in SIX if x in one and x not in other))
                within = all(x in other for x in one)
                self.assertIs(is_within(one, other), within)
                self.assertIs(are_apart(one, other), not within and not all(x in one for x in other))

    def test_lots_within_are_ascending(self):
        for lot in LOTS:
            self.assertEqual(lots_within(lot), tuple(some for some in LOTS if set(some) <= set(lot)))

    def test_lots_within_no_letters(self):
        self.assertEqual(lots_within(()), ((),))

    def test_lots_on(self):
        for one in LOTS:
            self.assertEqual(lots_on((one,)), one)
            for other in LOTS:
                self.assertEqual(lots_on((one, (), other, one)), joined_lot(one, other))
        self.assertEqual(lots_on(()), ())
        self.assertEqual(lots_on(((),)), ())
        self.assertEqual(lots_on(tuple(LOTS) * 9), SIX)

    def test_wrong_lots(self):
        for call in (joined_lot, common_lot, rest_lot, is_within, are_apart):
            check_wrongs(self, call, ((0, 1), (1,)), (((InvalidLot, WRONG_LOTS),), ((InvalidLot, WRONG_LOTS),)))
        check_wrongs(self, lots_within, ((0, 1),), (((InvalidLot, WRONG_LOTS),),))

    def test_lots_on_takes_tuples_of_lots_alone(self):
        wrong = ODD + OBJECTS + (0, 1, True, False, SIX, [()], [(0,)], ((0,), [1]), ((1, 0),), ((6,),), "01")
        for value in wrong:
            refused(self, InvalidOperation, lots_on, (value,))
        for value in WRONG_LOTS:
            refused(self, InvalidOperation, lots_on, (((0,), value),))


if __name__ == "__main__":
    unittest.main()
