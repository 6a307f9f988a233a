"""Where several refusals fit, it is the one that is named first: for every function with several arguments."""

import unittest
from itertools import product

from stampsheet.changes import changed, gone_and_come
from stampsheet.errors import NoCell, NoNumber, NoPiece, NoSheet, NoWants
from stampsheet.pieces import pieces
from stampsheet.sheets import near
from stampsheet.tearing import fair, fewest_tears, tears, torn
from stampsheet.worths import piece_for, worth, worths, first_missing
from tests.samples import NO_CELLS_OF_APART, NO_NUMBERS, NO_PARTS_OF_SQUARE, NO_PIECES_OF_SQUARE, NO_SHEETS
from tests.samples import NO_WANTS, NO_WORTHS, NOT_FROM_1_ON, SQUARE

# What is refused whatever the sheet, and with what; the first of each is what is handed in rightly.
SHEET = (NoSheet, SQUARE, [None, [], (), ((True,),), [SQUARE], "1", 1])
CELL = (NoCell, (0, 0), [None, (2, 0), (0, True), [0, 0], "00", (0, 0, 0), 0])
PIECE = (NoPiece, ((0, 0),), [None, (), [(0, 0)], ((0, 0), (0, 0)), ((0, 1), (0, 0)), ((0, 0), (1, 1)), "00", 0])
PARTS = (NoPiece, [((0, 0), (0, 1), (1, 0), (1, 1))], [None, [], [()], (((0, 0), (0, 1), (1, 0), (1, 1)),), "", 0])
MOST = (NoNumber, 12, [None, 0, 13, True, "1", [1], 1.0])
NUMBER = (NoNumber, 5, [None, 0, -1, True, "1", [1], 1.0])
WORTH = (NoNumber, 5, [None, 0, 10000, True, "1", [1], 1.0])
WANTS = (NoWants, [10], [None, [], (10,), [0], [True], ["10"], [1] * 13, 10, "10"])

CALLS = [
    (near, [SHEET, CELL]),
    (pieces, [SHEET, MOST]),
    (worth, [SHEET, PIECE]),
    (worths, [SHEET, MOST]),
    (first_missing, [SHEET, MOST]),
    (piece_for, [SHEET, NUMBER]),
    (changed, [SHEET, CELL, WORTH]),
    (gone_and_come, [SHEET, MOST, CELL, WORTH]),
    (torn, [SHEET, WANTS]),
    (fewest_tears, [SHEET, WANTS]),
    (tears, [SHEET, PARTS]),
    (fair, [SHEET, MOST]),
]

# All wrong things of a kind, each behind a sheet that is none.
BEHIND_NO_SHEET = [
    (near, NO_CELLS_OF_APART), (pieces, NO_NUMBERS), (worth, NO_PIECES_OF_SQUARE), (worths, NO_NUMBERS),
    (first_missing, NO_NUMBERS), (piece_for, NOT_FROM_1_ON), (torn, NO_WANTS), (fewest_tears, NO_WANTS),
    (tears, NO_PARTS_OF_SQUARE), (fair, NO_NUMBERS),
]


class Refusals(unittest.TestCase):
    def test_the_first_that_fits(self):
        for call, arguments in CALLS:
            for wrong in product((False, True), repeat=len(arguments)):
                handed_in = [
                    things if is_wrong else [right]
                    for is_wrong, (refusal, right, things) in zip(wrong, arguments)
                ]
                expected = [refusal for is_wrong, (refusal, right, things) in zip(wrong, arguments) if is_wrong]
                for things in product(*handed_in):
                    with self.subTest(call=call.__name__, things=things):
                        if expected:
                            with self.assertRaises(expected[0]):
                                call(*things)
                        else:
                            call(*things)

    def test_what_is_no_sheet_goes_ahead_of_all(self):
        for call, things in BEHIND_NO_SHEET:
            for number, thing in enumerate(things):
                with self.subTest(call=call.__name__, number=number):
                    with self.assertRaises(NoSheet):
                        call([SQUARE], thing)

    def test_a_change_is_refused_by_the_sheet_then_most_then_the_cell_then_the_number(self):
        for number, thing in enumerate(NO_NUMBERS):
            with self.subTest(number=number):
                with self.assertRaises(NoNumber):
                    gone_and_come(SQUARE, thing, (5, 5), 10000)
        for number, thing in enumerate(NO_WORTHS):
            with self.subTest(number=number):
                with self.assertRaises(NoCell):
                    gone_and_come(SQUARE, 12, (5, 5), thing)
                with self.assertRaises(NoCell):
                    changed(SQUARE, (5, 5), thing)
        for number, thing in enumerate(NO_SHEETS):
            with self.subTest(number=number):
                with self.assertRaises(NoSheet):
                    gone_and_come(thing, 0, (5, 5), 0)
                with self.assertRaises(NoSheet):
                    changed(thing, (5, 5), 0)

    def test_things_that_hold_themselves(self):
        endless = []
        endless.append(endless)
        for call, refusal in [(torn, NoWants), (fewest_tears, NoWants), (tears, NoPiece), (worth, NoPiece),
                              (piece_for, NoNumber), (worths, NoNumber), (fair, NoNumber)]:
            with self.subTest(call=call.__name__):
                with self.assertRaises(refusal):
                    call(SQUARE, endless)
                with self.assertRaises(NoSheet):
                    call(endless, endless)


if __name__ == "__main__":
    unittest.main()
