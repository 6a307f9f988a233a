"""Twelve stamps that all hang together, three rows of four: every function answers within a few seconds."""

import time
import unittest

from stampsheet.changes import changed, gone_and_come
from stampsheet.pieces import counts, is_piece, pieces
from stampsheet.sheets import checked, near, stamps
from stampsheet.tearing import fair, fewest_tears, tears, torn
from stampsheet.texts import read, shown
from stampsheet.turns import alike, least, mirrored, turned
from stampsheet.worths import first_missing, needless, piece_for, worth, worths
from tests.plain import sums
from tests.samples import HUGE, TWELVE

SECONDS = 4

ONES = ((1,) * 4,) * 3
TWOS = ((1, 2, 1, 2), (2, 1, 2, 1), (1, 2, 1, 2))
LARGE = ((9999, 9998, 9997, 9996), (9995, 9994, 9993, 9992), (9991, 9990, 9989, 9988))
ALL_CELLS = tuple((row, column) for row in range(3) for column in range(4))


def total_of(sheet):
    return sum(sum(row) for row in sheet)


class Twelve(unittest.TestCase):
    def in_time(self, call, *handed_in):
        start = time.perf_counter()
        told = call(*handed_in)
        self.assertLess(time.perf_counter() - start, SECONDS, call.__name__)
        return told

    def test_every_function(self):
        for sheet in (TWELVE, ONES, TWOS, LARGE):
            with self.subTest(sheet=sheet):
                for call in (checked, stamps, counts, needless, turned, mirrored, least):
                    self.in_time(call, sheet)
                self.assertIs(self.in_time(alike, sheet, turned(sheet)), True)
                self.assertEqual(self.in_time(read, self.in_time(shown, sheet)), sheet)
                for call in (pieces, worths, first_missing, fair):
                    for many in range(1, 13):
                        self.in_time(call, sheet, many)
                self.in_time(near, sheet, (1, 1))
                self.assertIs(self.in_time(is_piece, sheet, ALL_CELLS), True)
                self.assertEqual(self.in_time(worth, sheet, ALL_CELLS), total_of(sheet))
                self.assertIsNone(self.in_time(piece_for, sheet, HUGE))
                self.assertEqual(self.in_time(piece_for, sheet, total_of(sheet)), ALL_CELLS)
                self.in_time(changed, sheet, (2, 3), 9999)
                self.in_time(gone_and_come, sheet, 12, (1, 1), 9999)
                self.assertEqual(self.in_time(tears, sheet, [ALL_CELLS]), 0)
                self.assertEqual(self.in_time(tears, sheet, [(cell,) for cell in ALL_CELLS]), 17)

    def test_all_wants_of_ones(self):
        # On this sheet the most pieces have the same worth, so there are the most ways to go wrong.
        for wants in sums(12):
            with self.subTest(wants=wants):
                told = self.in_time(torn, ONES, list(wants))
                self.assertEqual([len(piece) for piece in told], list(wants))
                self.assertEqual(self.in_time(fewest_tears, ONES, list(wants)), tears(ONES, told))

    def test_wants_with_and_without_a_plan(self):
        for sheet, wants in [
            (TWOS, [9, 9]), (TWOS, [6, 6, 6]), (TWOS, [3] * 6), (TWOS, [2] * 9), (TWOS, [2, 2, 2, 12]),
            (TWOS, [7, 6, 5]), (TWOS, [4, 4, 4, 4, 1, 1]), (TWOS, [1] * 6 + [2] * 6),
            (TWELVE, [26, 26, 26]), (TWELVE, [39, 39]), (TWELVE, [13] * 6), (TWELVE, list(range(1, 13))),
            (LARGE, [total_of(LARGE) // 6] * 6), (LARGE, [total_of(LARGE) - 9999, 9999]),
        ]:
            with self.subTest(sheet=sheet, wants=wants):
                plan = self.in_time(torn, sheet, wants)
                fewest = self.in_time(fewest_tears, sheet, wants)
                self.assertEqual(plan is None, fewest is None)


if __name__ == "__main__":
    unittest.main()
