import unittest

from stampsheet.errors import NoNumber, NoPiece, NoSheet
from stampsheet.worths import first_missing, needless, piece_for, worth, worths
from tests.plain import all_sheets, plain_missing, plain_needless, plain_pieces, plain_stamps, plain_worth
from tests.plain import plain_worths
from tests.samples import APART, COLUMN, ENDS, HUGE, NINE, NO_NUMBERS, NO_PIECES_OF_SQUARE, NO_SHEETS
from tests.samples import NOT_FROM_1_ON, ONE, RING, ROW, SHEETS, SPREAD, SQUARE, TWELVE

# Sizes, and the places that all sheets of this size are made of.
SMALL = [(1, 3, (None, 1, 2, 3, 4)), (2, 2, (None, 1, 2, 3)), (2, 3, (None, 1, 2)), (4, 1, (None, 1, 2, 5))]


def small_sheets():
    for rows, columns, places in SMALL:
        yield from all_sheets(rows, columns, places)


class Worth(unittest.TestCase):
    def test_written_out(self):
        self.assertEqual(worth(ONE, ((0, 0),)), 7)
        self.assertEqual(worth(SQUARE, ((1, 0),)), 3)
        self.assertEqual(worth(SQUARE, ((0, 1), (1, 1))), 6)
        self.assertEqual(worth(SQUARE, ((0, 0), (0, 1), (1, 0), (1, 1))), 10)
        self.assertEqual(worth(ENDS, ((0, 0), (0, 1))), 10000)
        self.assertEqual(worth(NINE, ((0, 0), (0, 2), (1, 0), (1, 1), (1, 2))), 19)
        self.assertEqual(worth(TWELVE, tuple(plain_stamps(TWELVE))), 78)
        self.assertEqual(worth(((9999,) * 4,) * 3, tuple(plain_stamps(TWELVE))), 119988)

    def test_every_piece(self):
        for sheet in SHEETS:
            for piece in plain_pieces(sheet):
                with self.subTest(sheet=sheet, piece=piece):
                    told = worth(sheet, piece)
                    self.assertIs(type(told), int)
                    self.assertEqual(told, plain_worth(sheet, piece))

    def test_what_is_no_piece_is_refused(self):
        for number, thing in enumerate(NO_PIECES_OF_SQUARE):
            with self.subTest(number=number):
                with self.assertRaises(NoPiece):
                    worth(SQUARE, thing)

    def test_holes_and_what_they_part_are_no_pieces(self):
        for sheet, thing in [
            (RING, ((1, 1),)), (RING, ((0, 1), (1, 1))), (RING, ((0, 1), (2, 1))),
            (APART, ((0, 1),)), (APART, ((0, 0), (0, 2))), (APART, tuple(plain_stamps(APART))),
        ]:
            with self.subTest(sheet=sheet, thing=thing):
                with self.assertRaises(NoPiece):
                    worth(sheet, thing)


class Worths(unittest.TestCase):
    def test_written_out(self):
        self.assertEqual(worths(ONE, 1), [7])
        self.assertEqual(worths(ONE, 12), [7])
        self.assertEqual(worths(SQUARE, 1), [1, 2, 3, 4])
        self.assertEqual(worths(SQUARE, 2), [1, 2, 3, 4, 6, 7])
        self.assertEqual(worths(SQUARE, 3), [1, 2, 3, 4, 6, 7, 8, 9])
        self.assertEqual(worths(SQUARE, 12), [1, 2, 3, 4, 6, 7, 8, 9, 10])
        self.assertEqual(worths(ENDS, 2), [1, 9999, 10000])
        self.assertEqual(worths(RING, 12), [1, 2, 3, 4, 5, 6, 7, 8])
        self.assertEqual(worths(APART, 12), [5, 6, 7, 8, 13])
        self.assertEqual(worths(((4, None, 4),), 12), [4])

    def test_against_the_plain_search(self):
        for sheet in SHEETS:
            for most in (1, 2, 3, 5, 11, 12):
                with self.subTest(sheet=sheet, most=most):
                    told = worths(sheet, most)
                    self.assertIs(type(told), list)
                    self.assertEqual(told, plain_worths(sheet, most))

    def test_all_small_sheets_against_the_plain_search(self):
        for sheet in small_sheets():
            for most in (1, 2, 3, 12):
                if worths(sheet, most) != plain_worths(sheet, most):
                    self.fail(f"{sheet} {most}")

    def test_what_is_no_number_of_stamps_is_refused(self):
        for number, thing in enumerate(NO_NUMBERS):
            for call in (worths, first_missing):
                with self.subTest(number=number, call=call.__name__):
                    with self.assertRaises(NoNumber):
                        call(SQUARE, thing)


class FirstMissing(unittest.TestCase):
    def test_written_out(self):
        self.assertEqual(first_missing(ONE, 12), 1)
        self.assertEqual(first_missing(((1,),), 12), 2)
        self.assertEqual(first_missing(SQUARE, 1), 5)
        self.assertEqual(first_missing(SQUARE, 12), 5)
        self.assertEqual(first_missing(ENDS, 12), 2)
        self.assertEqual(first_missing(RING, 5), 6)
        self.assertEqual(first_missing(RING, 12), 9)
        self.assertEqual(first_missing(SPREAD, 12), 13)
        self.assertEqual(first_missing(((1, None, 1),), 12), 2)

    def test_where_it_is_1(self):
        for sheet in [((2,),), ((2, 3), (4, 5)), ((9999,),), APART]:
            for most in (1, 12):
                with self.subTest(sheet=sheet, most=most):
                    self.assertEqual(first_missing(sheet, most), 1)

    def test_against_the_plain_search(self):
        for sheet in SHEETS:
            for most in (1, 2, 3, 5, 11, 12):
                with self.subTest(sheet=sheet, most=most):
                    self.assertEqual(first_missing(sheet, most), plain_missing(sheet, most))

    def test_all_small_sheets_against_the_plain_search(self):
        for sheet in small_sheets():
            for most in (1, 2, 3, 12):
                if first_missing(sheet, most) != plain_missing(sheet, most):
                    self.fail(f"{sheet} {most}")


class PieceFor(unittest.TestCase):
    def test_written_out(self):
        self.assertEqual(piece_for(ONE, 7), ((0, 0),))
        self.assertEqual(piece_for(SQUARE, 10), ((0, 0), (0, 1), (1, 0), (1, 1)))
        self.assertEqual(piece_for(ENDS, 10000), ((0, 0), (0, 1)))
        self.assertEqual(piece_for(APART, 13), ((0, 2), (1, 2)))

    def test_the_fewest_cells_come_first(self):
        # 3 is there as one stamp and, earlier on the sheet, as two.
        self.assertEqual(piece_for(((1, 2), (5, 3)), 3), ((1, 1),))
        self.assertEqual(piece_for(((1, 1, 1, 2, 3),), 3), ((0, 4),))
        self.assertEqual(piece_for(((1, 1, 1, 2, 9),), 3), ((0, 2), (0, 3)))

    def test_of_as_many_cells_the_first_as_tuples(self):
        self.assertEqual(piece_for(RING, 1), ((0, 0),))
        self.assertEqual(piece_for(RING, 2), ((0, 0), (0, 1)))
        self.assertEqual(piece_for(RING, 3), ((0, 0), (0, 1), (0, 2)))
        self.assertEqual(piece_for(((None, 4), (4, 4)), 8), ((0, 1), (1, 1)))
        self.assertEqual(piece_for(((9, 1), (1, 9)), 10), ((0, 0), (0, 1)))

    def test_none_where_no_piece_has_it(self):
        for sheet, number in [
            (ONE, 1), (ONE, 6), (ONE, 8), (SQUARE, 5), (SQUARE, 11), (APART, 11), (APART, 26), (APART, 1),
            (TWELVE, 79), (ENDS, 9998), (ENDS, 10001), (SQUARE, 13), (SQUARE, 119989), (SQUARE, HUGE),
        ]:
            with self.subTest(sheet=sheet, number=number if number != HUGE else "huge"):
                self.assertIsNone(piece_for(sheet, number))

    def test_against_the_plain_search(self):
        for sheet in list(small_sheets()) + [NINE, RING, APART, SPREAD, ROW, COLUMN]:
            first = {}
            for piece in plain_pieces(sheet):
                first.setdefault(plain_worth(sheet, piece), piece)
            for number in range(1, plain_worth(sheet, plain_stamps(sheet)) + 3):
                if piece_for(sheet, number) != first.get(number):
                    self.fail(f"{sheet} {number}")

    def test_what_is_no_number_from_1_on_is_refused(self):
        for number, thing in enumerate(NOT_FROM_1_ON):
            for sheet in (SQUARE, ((1,),)):
                with self.subTest(number=number):
                    with self.assertRaises(NoNumber):
                        piece_for(sheet, thing)


class Needless(unittest.TestCase):
    def test_written_out(self):
        self.assertEqual(needless(((1, 1),)), [])
        self.assertEqual(needless(((1, 2),)), [])
        self.assertEqual(needless(((1, 5),)), [(0, 1)])
        self.assertEqual(needless(((2, 3),)), [(0, 0), (0, 1)])
        self.assertEqual(needless(((1, None, 1),)), [(0, 0), (0, 2)])
        self.assertEqual(needless(APART), [(0, 0), (0, 2), (1, 2), (2, 0)])

    def test_a_sheets_only_stamp_is_not(self):
        for sheet in [((1,),), ((2,),), ONE, ((9999,),), ((None, 3), (None, None))]:
            with self.subTest(sheet=sheet):
                self.assertEqual(needless(sheet), [])

    def test_a_stamp_without_which_the_sheet_falls_apart(self):
        # With the 4 between them 1 + 4 + 2 hang together; 3 is missing with it and without it.
        self.assertEqual(needless(((1, 4, 2),)), [(0, 1)])
        # 4 is 1 + 2 + 1 alone: without the 2 the ones don't hang together.
        self.assertEqual(needless(((1, 2, 1),)), [])
        # 1 + 3 + 1 is needed for nothing below the first missing worth, 2.
        self.assertEqual(needless(((1, 3, 1),)), [(0, 0), (0, 1), (0, 2)])

    def test_for_twelve_stamps(self):
        # Pieces of all sizes count: each stamp that goes takes the greatest worth along.
        for sheet in [((1,) * 4,) * 3, RING, ((1,),) * 5]:
            with self.subTest(sheet=sheet):
                self.assertEqual(needless(sheet), [])

    def test_against_the_plain_search(self):
        for sheet in SHEETS:
            with self.subTest(sheet=sheet):
                told = needless(sheet)
                self.assertIs(type(told), list)
                self.assertEqual(told, plain_needless(sheet))

    def test_twelve_stamps_against_the_plain_search(self):
        for sheet in [
            ((1, 2, 4, 8), (3, 1, 1, 2), (20, 5, 1, 40)),
            ((1, 1, 2, None, 6), (None, None, 3, None, 1), (9, 1, 2, 4, 2)),
        ]:
            with self.subTest(sheet=sheet):
                self.assertEqual(needless(sheet), plain_needless(sheet))

    def test_all_small_sheets_against_the_plain_search(self):
        for sheet in small_sheets():
            if needless(sheet) != plain_needless(sheet):
                self.fail(f"{sheet}")


class NoSheets(unittest.TestCase):
    def test_what_is_no_sheet_is_refused(self):
        for number, thing in enumerate(NO_SHEETS):
            for call in (
                lambda: worth(thing, ((0, 0),)), lambda: worths(thing, 12), lambda: first_missing(thing, 12),
                lambda: piece_for(thing, 1), lambda: needless(thing),
            ):
                with self.subTest(number=number):
                    with self.assertRaises(NoSheet):
                        call()


if __name__ == "__main__":
    unittest.main()
