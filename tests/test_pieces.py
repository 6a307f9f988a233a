import unittest

from stampsheet.errors import NoNumber, NoSheet
from stampsheet.pieces import counts, is_piece, pieces
from tests.plain import all_patterns, choices, hang_together, plain_stamps
from tests.samples import APART, ENDS, NINE, NO_NUMBERS, NO_PIECES_OF_SQUARE, NO_SHEETS, ONE
from tests.samples import RING, ROW, SHEETS, SPREAD, SQUARE, TWELVE

SMALL_SIZES = [(1, 1), (1, 5), (5, 1), (2, 2), (2, 3), (3, 2), (2, 4), (4, 2), (3, 3)]


class IsPiece(unittest.TestCase):
    def test_pieces(self):
        for piece in [((0, 0),), ((1, 1),), ((0, 0), (0, 1)), ((0, 1), (1, 1)),
                      ((0, 0), (0, 1), (1, 0)), ((0, 1), (1, 0), (1, 1)),
                      ((0, 0), (0, 1), (1, 0), (1, 1))]:
            with self.subTest(piece=piece):
                self.assertIs(is_piece(SQUARE, piece), True)
        self.assertIs(is_piece(TWELVE, tuple(plain_stamps(TWELVE))), True)

    def test_near_cells_may_lie_far_apart_in_the_rising_order(self):
        hook = ((0, 0), (0, 2), (1, 0), (1, 1), (1, 2))
        self.assertIs(is_piece(NINE, hook), True)
        self.assertIs(is_piece(NINE, hook[:2] + hook[3:]), False)

    def test_what_is_no_piece(self):
        for number, thing in enumerate(NO_PIECES_OF_SQUARE):
            with self.subTest(number=number):
                self.assertIs(is_piece(SQUARE, thing), False)

    def test_over_holes_nothing_hangs_together(self):
        self.assertIs(is_piece(RING, ((1, 1),)), False)
        self.assertIs(is_piece(RING, ((0, 1), (1, 1), (2, 1))), False)
        self.assertIs(is_piece(RING, ((0, 1), (2, 1))), False)
        self.assertIs(is_piece(RING, ((1, 0), (1, 2))), False)
        self.assertIs(is_piece(RING, tuple(plain_stamps(RING))), True)
        self.assertIs(is_piece(APART, ((0, 0), (0, 2))), False)
        self.assertIs(is_piece(APART, tuple(plain_stamps(APART))), False)

    def test_against_the_plain_search(self):
        for rows, columns in SMALL_SIZES:
            for sheet in all_patterns(rows, columns):
                for cells in choices(sheet):
                    if is_piece(sheet, cells) is not hang_together(cells):
                        self.fail(f"{sheet} {cells}")

    def test_what_is_no_sheet_is_refused_whatever_the_thing(self):
        for number, thing in enumerate(NO_SHEETS):
            with self.subTest(number=number):
                with self.assertRaises(NoSheet):
                    is_piece(thing, ((0, 0),))
                with self.assertRaises(NoSheet):
                    is_piece(thing, None)
        for number, thing in enumerate(NO_PIECES_OF_SQUARE):
            with self.subTest(number=number):
                with self.assertRaises(NoSheet):
                    is_piece([SQUARE], thing)


class Pieces(unittest.TestCase):
    def test_written_out(self):
        self.assertEqual(pieces(ONE, 1), [((0, 0),)])
        self.assertEqual(pieces(ENDS, 2), [((0, 0),), ((0, 1),), ((0, 0), (0, 1))])
        self.assertEqual(pieces(SQUARE, 12), [
            ((0, 0),), ((0, 1),), ((1, 0),), ((1, 1),),
            ((0, 0), (0, 1)), ((0, 0), (1, 0)), ((0, 1), (1, 1)), ((1, 0), (1, 1)),
            ((0, 0), (0, 1), (1, 0)), ((0, 0), (0, 1), (1, 1)),
            ((0, 0), (1, 0), (1, 1)), ((0, 1), (1, 0), (1, 1)),
            ((0, 0), (0, 1), (1, 0), (1, 1)),
        ])
        self.assertEqual(pieces(APART, 12), [
            ((0, 0),), ((0, 2),), ((1, 2),), ((2, 0),), ((0, 2), (1, 2)),
        ])

    def test_a_row_has_its_runs(self):
        runs = [tuple((0, start + step) for step in range(many))
                for many in range(1, 6) for start in range(6 - many)]
        self.assertEqual(pieces(ROW, 5), runs)

    def test_each_number_of_stamps_against_the_plain_search(self):
        for sheet in SHEETS:
            plain = [cells for cells in choices(sheet) if hang_together(cells)]
            for most in range(1, 13):
                with self.subTest(sheet=sheet, most=most):
                    told = pieces(sheet, most)
                    self.assertIs(type(told), list)
                    self.assertEqual(told, [cells for cells in plain if len(cells) <= most])

    def test_all_small_sheets_against_the_plain_search(self):
        for rows, columns in SMALL_SIZES:
            for sheet in all_patterns(rows, columns):
                plain = [cells for cells in choices(sheet) if hang_together(cells)]
                if pieces(sheet, 12) != plain:
                    self.fail(f"{sheet}")

    def test_in_order_each_once_and_each_a_piece(self):
        told = pieces(TWELVE, 12)
        self.assertEqual(told, sorted(told, key=lambda piece: (len(piece), piece)))
        self.assertEqual(len(told), len(set(told)))
        for piece in told:
            self.assertIs(is_piece(TWELVE, piece), True)

    def test_the_numbers_at_the_edges(self):
        self.assertEqual(pieces(TWELVE, 1), [(cell,) for cell in plain_stamps(TWELVE)])
        self.assertEqual(pieces(TWELVE, 12)[-1], tuple(plain_stamps(TWELVE)))
        self.assertEqual(len(pieces(TWELVE, 11)), len(pieces(TWELVE, 12)) - 1)

    def test_what_is_no_number_of_stamps_is_refused(self):
        for number, thing in enumerate(NO_NUMBERS):
            for sheet in (ONE, SQUARE, TWELVE):
                with self.subTest(number=number):
                    with self.assertRaises(NoNumber):
                        pieces(sheet, thing)

    def test_what_is_no_sheet_is_refused_ahead_of_the_number(self):
        for number, thing in enumerate(NO_SHEETS):
            with self.subTest(number=number):
                with self.assertRaises(NoSheet):
                    pieces(thing, 12)
                with self.assertRaises(NoSheet):
                    pieces(thing, 0)
        for number, thing in enumerate(NO_NUMBERS):
            with self.subTest(number=number):
                with self.assertRaises(NoSheet):
                    pieces([SQUARE], thing)


class Counts(unittest.TestCase):
    def test_written_out(self):
        self.assertEqual(counts(ONE), [1])
        self.assertEqual(counts(ENDS), [2, 1])
        self.assertEqual(counts(ROW), [5, 4, 3, 2, 1])
        self.assertEqual(counts(SQUARE), [4, 4, 4, 1])
        self.assertEqual(counts(RING), [8, 8, 8, 8, 8, 8, 8, 1])
        self.assertEqual(sum(counts(NINE)), 218)
        self.assertEqual(sum(counts(TWELVE)), 1126)

    def test_nothing_is_left_out_where_there_are_none(self):
        self.assertEqual(counts(APART), [4, 1, 0, 0])
        self.assertEqual(counts(SPREAD), [12] + [0] * 11)
        self.assertEqual(counts(((1, None, 1),)), [2, 0])

    def test_against_the_plain_search(self):
        for sheet in SHEETS:
            with self.subTest(sheet=sheet):
                plain = [0] * len(plain_stamps(sheet))
                for cells in choices(sheet):
                    plain[len(cells) - 1] += hang_together(cells)
                told = counts(sheet)
                self.assertIs(type(told), list)
                self.assertEqual(told, plain)

    def test_what_is_no_sheet_is_refused(self):
        for number, thing in enumerate(NO_SHEETS):
            with self.subTest(number=number):
                with self.assertRaises(NoSheet):
                    counts(thing)


if __name__ == "__main__":
    unittest.main()
