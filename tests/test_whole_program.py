"""What the first point says over the whole program."""

import copy
import gc
import unittest
import weakref

from stampsheet.changes import changed, gone_and_come
from stampsheet.errors import SheetError
from stampsheet.pieces import counts, is_piece, pieces
from stampsheet.sheets import checked, near, stamps
from stampsheet.strips import best_strip
from stampsheet.tearing import fair, fewest_tears, tears, torn
from stampsheet.texts import read, shown
from stampsheet.turns import alike, least, mirrored, turned
from stampsheet.worths import first_missing, needless, piece_for, worth, worths
from tests.samples import SHEETS, SQUARE


def first_cell(sheet):
    return stamps(sheet)[0]


def single_wants(sheet):
    return [worth(sheet, (cell,)) for cell in stamps(sheet)]


def answers(sheet):
    told = [checked(sheet), stamps(sheet), counts(sheet), needless(sheet)]
    told.extend([near(sheet, cell) for cell in stamps(sheet)])
    told.extend([pieces(sheet, most) for most in range(1, 13)])
    told.extend([is_piece(sheet, piece) for piece in pieces(sheet, 3)])
    told.extend([worth(sheet, piece) for piece in pieces(sheet, 3)])
    told.extend([call(sheet, most) for call in (worths, first_missing, fair) for most in (1, 2, 3, 12)])
    told.extend([piece_for(sheet, number) for number in (1, 5, 8)])
    told.extend([changed(sheet, cell, 5) for cell in stamps(sheet)])
    told.extend([gone_and_come(sheet, 12, first_cell(sheet), number) for number in (1, 5)])
    told.extend([call(sheet, wants) for call in (torn, fewest_tears) for wants in (single_wants(sheet), [1])])
    told.append(tears(sheet, [(cell,) for cell in stamps(sheet)]))
    told.extend([turned(sheet), mirrored(sheet), least(sheet), shown(sheet), read(shown(sheet))])
    told.extend([alike(sheet, other) for other in (sheet, turned(sheet), SQUARE)])
    told.append(best_strip(min(4, len(stamps(sheet)))))
    return told


def listing_calls(sheet):
    return [
        lambda: stamps(sheet),
        lambda: near(sheet, first_cell(sheet)),
        lambda: pieces(sheet, 1),
        lambda: pieces(sheet, 12),
        lambda: counts(sheet),
        lambda: worths(sheet, 1),
        lambda: worths(sheet, 12),
        lambda: needless(sheet),
        lambda: gone_and_come(sheet, 12, first_cell(sheet), 9999)[0],
        lambda: gone_and_come(sheet, 12, first_cell(sheet), 9999)[1],
        lambda: torn(sheet, single_wants(sheet)),
        # Where all stamps don't hang together there is no such plan, and no list to be new.
        lambda: fair(sheet, 1) or [],
    ]


class Token:
    """Of this, other than of a tuple, one can tell whether it is gone."""


class WatchedTuple(tuple):
    """Takes its token along when it goes."""


class WatchedList(list):
    """Takes its token along when it goes."""


class WatchedText(str):
    """Takes its token along when it goes."""


def watched(thing, watchers):
    thing.token = Token()
    watchers.append(weakref.ref(thing.token))
    return thing


class WholeProgram(unittest.TestCase):
    def test_lists_are_new_ones_each_time(self):
        for sheet in SHEETS:
            for number, call in enumerate(listing_calls(sheet)):
                with self.subTest(sheet=sheet, call=number):
                    first = call()
                    as_told = copy.deepcopy(first)
                    second = call()
                    self.assertIsNot(first, second)
                    first.append("spoilt")
                    first.reverse()
                    self.assertEqual(second, as_told)
                    self.assertEqual(call(), as_told)

    def test_equal_sheets_give_equal_answers_in_whatever_order(self):
        before = [answers(sheet) for sheet in SHEETS]
        again = [tuple(tuple(list(row)) for row in list(sheet)) for sheet in SHEETS]
        after = [answers(sheet) for sheet in reversed(again)]
        self.assertEqual(before, list(reversed(after)))

    def test_true_is_no_number_even_after_the_equal_sheet_was_asked(self):
        self.assertEqual(counts(((1, 1),)), [2, 1])
        ones = ((1, 1),)
        for call in (checked, stamps, counts, needless, turned, mirrored, least, shown):
            call(ones)
            with self.assertRaises(SheetError):
                call(((1, True),))
        self.assertIs(alike(ones, ones), True)
        for one, other in [(ones, ((1, True),)), (((True, 1),), ones), (((1, True),), ((1, True),))]:
            with self.assertRaises(SheetError):
                alike(one, other)
        self.assertEqual(near(SQUARE, (0, 1)), [(0, 0), (1, 1)])
        with self.assertRaises(SheetError):
            near(SQUARE, (0, True))
        self.assertEqual(len(pieces(SQUARE, 1)), 4)
        with self.assertRaises(SheetError):
            pieces(SQUARE, True)
        self.assertIs(is_piece(SQUARE, ((0, 0), (0, 1))), True)
        self.assertIs(is_piece(SQUARE, ((0, 0), (0, True))), False)
        for call, number in [
            (lambda number: worths(SQUARE, number), 1),
            (lambda number: first_missing(SQUARE, number), 1),
            (lambda number: piece_for(SQUARE, number), 1),
            (lambda number: worth(SQUARE, ((0, number),)), 1),
            (lambda number: changed(SQUARE, (0, 0), number), 1),
            (lambda number: changed(SQUARE, (0, number), 1), 1),
            (lambda number: gone_and_come(SQUARE, number, (0, 0), 1), 1),
            (lambda number: gone_and_come(SQUARE, 1, (number, 0), 1), 1),
            (lambda number: gone_and_come(SQUARE, 1, (0, 0), number), 1),
            (lambda number: torn(SQUARE, [number, 9]), 1),
            (lambda number: fewest_tears(SQUARE, [9, number]), 1),
            (lambda number: tears(SQUARE, [((0, 0), (0, 1), (1, 0), (1, number))]), 1),
            (lambda number: fair(SQUARE, number), 1),
            (best_strip, 1),
            (lambda number: read(f"{number}\n"), 1),
            (lambda number: worth(SQUARE, ((number, 0),)), 0),
            (lambda number: changed(SQUARE, (number, 0), 1), 0),
            (lambda number: tears(SQUARE, [((number, 0), (0, 1), (1, 0), (1, 1))]), 0),
        ]:
            call(number)
            with self.assertRaises(SheetError):
                call(bool(number))

    def test_wrong_things_are_not_changed(self):
        rows = [[1, 2], [3, 4]]
        cells = [[0, 1], [0, 0]]
        for call in (
            lambda: checked(rows), lambda: stamps(rows), lambda: near(rows, cells[0]),
            lambda: counts(rows), lambda: pieces(rows, cells), lambda: is_piece(rows, cells),
            lambda: checked(tuple(rows)), lambda: near(SQUARE, cells[0]), lambda: pieces(SQUARE, cells),
            lambda: worth(rows, cells), lambda: worths(rows, cells), lambda: first_missing(rows, cells),
            lambda: piece_for(rows, cells), lambda: needless(rows), lambda: changed(rows, cells[0], 5),
            lambda: gone_and_come(rows, 12, cells[0], 5), lambda: torn(rows, cells),
            lambda: fewest_tears(rows, cells), lambda: tears(rows, cells), lambda: fair(rows, cells),
            lambda: worth(SQUARE, cells), lambda: worths(SQUARE, cells), lambda: first_missing(SQUARE, cells),
            lambda: piece_for(SQUARE, cells), lambda: changed(SQUARE, cells[0], 5),
            lambda: changed(SQUARE, (0, 0), cells), lambda: gone_and_come(SQUARE, 12, cells[0], 5),
            lambda: torn(SQUARE, cells), lambda: fewest_tears(SQUARE, cells), lambda: tears(SQUARE, cells),
            lambda: fair(SQUARE, cells),
            lambda: turned(rows), lambda: mirrored(rows), lambda: least(rows), lambda: alike(rows, SQUARE),
            lambda: alike(SQUARE, rows), lambda: shown(rows), lambda: read(rows), lambda: best_strip(rows),
        ):
            with self.assertRaises(SheetError):
                call()
        self.assertIs(is_piece(SQUARE, cells), False)
        self.assertIs(is_piece(SQUARE, tuple(cells)), False)
        self.assertEqual(rows, [[1, 2], [3, 4]])
        self.assertEqual(cells, [[0, 1], [0, 0]])

    def test_what_is_told_does_not_hang_on_what_was_handed_in(self):
        wants = [3, 7]
        plan = torn(SQUARE, wants)
        as_told = copy.deepcopy(plan)
        wants.reverse()
        wants.append(1)
        self.assertEqual(plan, as_told)
        self.assertEqual(torn(SQUARE, [3, 7]), as_told)
        self.assertIsNone(torn(SQUARE, wants))
        parts = list(as_told)
        self.assertEqual(tears(SQUARE, parts), 2)
        parts.append(parts[0])
        self.assertRaises(SheetError, tears, SQUARE, parts)

    def test_nothing_is_kept(self):
        watchers = []
        sheet = watched(WatchedTuple(((1, 2), (3, 4))), watchers)
        cell = watched(WatchedTuple((0, 0)), watchers)
        piece = watched(WatchedTuple(((0, 0), (0, 1))), watchers)
        wants = watched(WatchedList([3, 7]), watchers)
        parts = watched(WatchedList([piece, ((1, 0), (1, 1))]), watchers)
        text = watched(WatchedText("1 2\n3 4\n"), watchers)
        wrong = watched(WatchedList([(1, 2), (3, 4)]), watchers)
        answers(sheet)
        near(sheet, cell)
        changed(sheet, cell, 5)
        gone_and_come(sheet, 12, cell, 5)
        self.assertIs(is_piece(sheet, piece), True)
        self.assertEqual(worth(sheet, piece), 3)
        self.assertEqual(torn(sheet, wants), parts)
        self.assertEqual(fewest_tears(sheet, wants), 2)
        self.assertEqual(tears(sheet, parts), 2)
        self.assertEqual(read(text), sheet)
        self.assertIs(alike(sheet, sheet), True)
        self.assertIs(is_piece(sheet, wrong), False)
        for call in (checked, stamps, counts, needless, turned, mirrored, least, shown, read, best_strip):
            self.assertRaises(SheetError, call, wrong)
        for call in (near, pieces, worth, worths, first_missing, piece_for, torn, fewest_tears, tears, fair, alike):
            self.assertRaises(SheetError, call, sheet, wrong)
        self.assertRaises(SheetError, changed, sheet, wrong, 5)
        self.assertRaises(SheetError, changed, sheet, cell, wrong)
        self.assertRaises(SheetError, gone_and_come, sheet, wrong, cell, 5)
        self.assertNotIn(None, [watcher() for watcher in watchers])
        del sheet, cell, piece, wants, parts, text, wrong
        gc.collect()
        self.assertEqual([watcher() for watcher in watchers], [None] * 7)


if __name__ == "__main__":
    unittest.main()
