"""What the first point says over the whole program."""

import copy
import gc
import unittest
import weakref

from stampsheet.errors import SheetError
from stampsheet.pieces import counts, is_piece, pieces
from stampsheet.sheets import checked, near, stamps
from tests.samples import SHEETS, SQUARE


def first_cell(sheet):
    return stamps(sheet)[0]


def answers(sheet):
    told = [checked(sheet), stamps(sheet), counts(sheet)]
    told.extend([near(sheet, cell) for cell in stamps(sheet)])
    told.extend([pieces(sheet, most) for most in range(1, 13)])
    told.extend([is_piece(sheet, piece) for piece in pieces(sheet, 3)])
    return told


def listing_calls(sheet):
    return [
        lambda: stamps(sheet),
        lambda: near(sheet, first_cell(sheet)),
        lambda: pieces(sheet, 1),
        lambda: pieces(sheet, 12),
        lambda: counts(sheet),
    ]


class Token:
    """Of this, other than of a tuple, one can tell whether it is gone."""


class WatchedTuple(tuple):
    """Takes its token along when it goes."""


class WatchedList(list):
    """Takes its token along when it goes."""


def watched(thing, watchers):
    thing.token = Token()
    watchers.append(weakref.ref(thing.token))
    return thing


class WholeProgram(unittest.TestCase):
    def test_lists_are_new_ones_each_time(self):
        for sheet in SHEETS:
            for number, call in enumerate(listing_calls(sheet)):
                with self.subTest(sheet=sheet, call=number):
                    first = call()
                    as_told = copy.deepcopy(first)
                    second = call()
                    self.assertIsNot(first, second)
                    first.append("spoilt")
                    first.reverse()
                    self.assertEqual(second, as_told)
                    self.assertEqual(call(), as_told)

    def test_equal_sheets_give_equal_answers_in_whatever_order(self):
        before = [answers(sheet) for sheet in SHEETS]
        again = [tuple(tuple(list(row)) for row in list(sheet)) for sheet in SHEETS]
        after = [answers(sheet) for sheet in reversed(again)]
        self.assertEqual(before, list(reversed(after)))

    def test_true_is_no_number_even_after_the_equal_sheet_was_asked(self):
        self.assertEqual(counts(((1, 1),)), [2, 1])
        for call in (checked, stamps, counts):
            with self.assertRaises(SheetError):
                call(((1, True),))
        self.assertEqual(near(SQUARE, (0, 1)), [(0, 0), (1, 1)])
        with self.assertRaises(SheetError):
            near(SQUARE, (0, True))
        self.assertEqual(len(pieces(SQUARE, 1)), 4)
        with self.assertRaises(SheetError):
            pieces(SQUARE, True)
        self.assertIs(is_piece(SQUARE, ((0, 0), (0, 1))), True)
        self.assertIs(is_piece(SQUARE, ((0, 0), (0, True))), False)

    def test_wrong_things_are_not_changed(self):
        rows = [[1, 2], [3, 4]]
        cells = [[0, 1], [0, 0]]
        for call in (
            lambda: checked(rows), lambda: stamps(rows), lambda: near(rows, cells[0]),
            lambda: counts(rows), lambda: pieces(rows, cells), lambda: is_piece(rows, cells),
            lambda: checked(tuple(rows)), lambda: near(SQUARE, cells[0]), lambda: pieces(SQUARE, cells),
        ):
            with self.assertRaises(SheetError):
                call()
        self.assertIs(is_piece(SQUARE, cells), False)
        self.assertIs(is_piece(SQUARE, tuple(cells)), False)
        self.assertEqual(rows, [[1, 2], [3, 4]])
        self.assertEqual(cells, [[0, 1], [0, 0]])

    def test_nothing_is_kept(self):
        watchers = []
        sheet = watched(WatchedTuple(((1, 2), (3, 4))), watchers)
        cell = watched(WatchedTuple((0, 0)), watchers)
        piece = watched(WatchedTuple(((0, 0), (0, 1))), watchers)
        wrong = watched(WatchedList([(1, 2), (3, 4)]), watchers)
        answers(sheet)
        near(sheet, cell)
        self.assertIs(is_piece(sheet, piece), True)
        self.assertIs(is_piece(sheet, wrong), False)
        for call in (checked, stamps, counts):
            self.assertRaises(SheetError, call, wrong)
        self.assertRaises(SheetError, near, sheet, wrong)
        self.assertRaises(SheetError, pieces, sheet, wrong)
        self.assertNotIn(None, [watcher() for watcher in watchers])
        del sheet, cell, piece, wrong
        gc.collect()
        self.assertEqual([watcher() for watcher in watchers], [None] * 4)


if __name__ == "__main__":
    unittest.main()
