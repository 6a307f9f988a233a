"""What each function of the program refuses, by which refusal, and by which one where several fit: that named first."""

import unittest
from itertools import product

from stampsheet.changes import changed, gone_and_come
from stampsheet.errors import NoCell, NoNumber, NoPiece, NoSheet, NoText, NoWants
from stampsheet.pieces import counts, is_piece, pieces
from stampsheet.sheets import checked, near, stamps
from stampsheet.strips import best_strip
from stampsheet.tearing import fair, fewest_tears, tears, torn
from stampsheet.texts import read, shown
from stampsheet.turns import alike, least, mirrored, turned
from stampsheet.worths import first_missing, needless, piece_for, worth, worths
from tests.samples import NO_CELLS_OF_APART, NO_NUMBERS, NO_PARTS_OF_SQUARE, NO_PIECES_OF_SQUARE, NO_SHEETS
from tests.samples import NO_WANTS, NO_WORTHS, NOT_FROM_1_ON, OF_ANY_KIND, SQUARE
from tests.test_interface import FUNCTIONS

# What is refused whatever the sheet, and with what; the first of each is what is handed in rightly.
SHEET = (NoSheet, SQUARE, [None, [], (), ((True,),), [SQUARE], "1", 1])
CELL = (NoCell, (0, 0), [None, (2, 0), (0, True), [0, 0], "00", (0, 0, 0), 0])
PIECE = (NoPiece, ((0, 0),), [None, (), [(0, 0)], ((0, 0), (0, 0)), ((0, 1), (0, 0)), ((0, 0), (1, 1)), "00", 0])
PARTS = (NoPiece, [((0, 0), (0, 1), (1, 0), (1, 1))], [None, [], [()], (((0, 0), (0, 1), (1, 0), (1, 1)),), "", 0])
MOST = (NoNumber, 12, [None, 0, 13, True, "1", [1], 1.0])
NUMBER = (NoNumber, 5, [None, 0, -1, True, "1", [1], 1.0])
WORTH = (NoNumber, 5, [None, 0, 10000, True, "1", [1], 1.0])
WANTS = (NoWants, [10], [None, [], (10,), [0], [True], ["10"], [1] * 13, 10, "10"])
STRIP = (NoNumber, 4, [None, 0, 5, -1, True, "1", [1], 1.0, SQUARE])
TEXT = (NoText, "1\n", [None, "", "1", "0\n", "01\n", "1\n\n", b"1\n", ["1\n"], ("1\n",), 1, SQUARE])
# Whatever is asked whether it is a piece, nothing but the sheet is refused.
ANYTHING = (None, ((0, 0),), [])

CALLS = [
    (checked, [SHEET]),
    (stamps, [SHEET]),
    (near, [SHEET, CELL]),
    (is_piece, [SHEET, ANYTHING]),
    (pieces, [SHEET, MOST]),
    (counts, [SHEET]),
    (worth, [SHEET, PIECE]),
    (worths, [SHEET, MOST]),
    (first_missing, [SHEET, MOST]),
    (piece_for, [SHEET, NUMBER]),
    (needless, [SHEET]),
    (changed, [SHEET, CELL, WORTH]),
    (gone_and_come, [SHEET, MOST, CELL, WORTH]),
    (torn, [SHEET, WANTS]),
    (fewest_tears, [SHEET, WANTS]),
    (tears, [SHEET, PARTS]),
    (fair, [SHEET, MOST]),
    (best_strip, [STRIP]),
    (turned, [SHEET]),
    (mirrored, [SHEET]),
    (least, [SHEET]),
    (alike, [SHEET, SHEET]),
    (shown, [SHEET]),
    (read, [TEXT]),
]

# All wrong things of a kind, each behind a sheet that is none.
BEHIND_NO_SHEET = [
    (near, NO_CELLS_OF_APART), (pieces, NO_NUMBERS), (worth, NO_PIECES_OF_SQUARE), (worths, NO_NUMBERS),
    (first_missing, NO_NUMBERS), (piece_for, NOT_FROM_1_ON), (torn, NO_WANTS), (fewest_tears, NO_WANTS),
    (tears, NO_PARTS_OF_SQUARE), (fair, NO_NUMBERS), (is_piece, OF_ANY_KIND), (alike, NO_SHEETS),
]


class Refusals(unittest.TestCase):
    def test_no_function_is_left_out(self):
        self.assertEqual(sorted(call.__name__ for call, arguments in CALLS), sorted(FUNCTIONS))
        for call, arguments in CALLS:
            with self.subTest(call=call.__name__):
                self.assertEqual(call.__code__.co_argcount, len(arguments))

    def test_the_first_that_fits(self):
        for call, arguments in CALLS:
            for wrong in product((False, True), repeat=len(arguments)):
                handed_in = [
                    things if is_wrong else [right]
                    for is_wrong, (refusal, right, things) in zip(wrong, arguments)
                ]
                expected = [refusal for is_wrong, (refusal, right, things) in zip(wrong, arguments) if is_wrong]
                for things in product(*handed_in):
                    with self.subTest(call=call.__name__, things=things):
                        if expected:
                            with self.assertRaises(expected[0]):
                                call(*things)
                        else:
                            call(*things)

    def test_what_is_no_sheet_goes_ahead_of_all(self):
        for call, things in BEHIND_NO_SHEET:
            for number, thing in enumerate(things):
                with self.subTest(call=call.__name__, number=number):
                    with self.assertRaises(NoSheet):
                        call([SQUARE], thing)

    def test_a_change_is_refused_by_the_sheet_then_most_then_the_cell_then_the_number(self):
        for number, thing in enumerate(NO_NUMBERS):
            with self.subTest(number=number):
                with self.assertRaises(NoNumber):
                    gone_and_come(SQUARE, thing, (5, 5), 10000)
        for number, thing in enumerate(NO_WORTHS):
            with self.subTest(number=number):
                with self.assertRaises(NoCell):
                    gone_and_come(SQUARE, 12, (5, 5), thing)
                with self.assertRaises(NoCell):
                    changed(SQUARE, (5, 5), thing)
        for number, thing in enumerate(NO_SHEETS):
            with self.subTest(number=number):
                with self.assertRaises(NoSheet):
                    gone_and_come(thing, 0, (5, 5), 0)
                with self.assertRaises(NoSheet):
                    changed(thing, (5, 5), 0)

    def test_things_that_hold_themselves(self):
        endless = []
        endless.append(endless)
        for call, refusal in [(torn, NoWants), (fewest_tears, NoWants), (tears, NoPiece), (worth, NoPiece),
                              (piece_for, NoNumber), (worths, NoNumber), (fair, NoNumber), (alike, NoSheet)]:
            with self.subTest(call=call.__name__):
                with self.assertRaises(refusal):
                    call(SQUARE, endless)
                with self.assertRaises(NoSheet):
                    call(endless, endless)
        for call, refusal in [(turned, NoSheet), (mirrored, NoSheet), (least, NoSheet), (shown, NoSheet),
                              (read, NoText), (best_strip, NoNumber)]:
            with self.subTest(call=call.__name__):
                with self.assertRaises(refusal):
                    call(endless)


if __name__ == "__main__":
    unittest.main()
