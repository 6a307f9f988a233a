import unittest

from stampsheet.errors import NoCell, NoSheet
from stampsheet.sheets import checked, near, stamps
from tests.plain import are_near, plain_stamps
from tests.samples import APART, COLUMN, ENDS, NINE, NO_CELLS_OF_APART, NO_SHEETS, ONE, RING, ROW
from tests.samples import SHEETS, SPREAD, SQUARE, TWELVE


class Sheets(unittest.TestCase):
    def test_checked_tells_the_sheet(self):
        for sheet in SHEETS:
            with self.subTest(sheet=sheet):
                self.assertEqual(checked(sheet), sheet)

    def test_each_size_is_a_sheet(self):
        for rows in range(1, 6):
            for columns in range(1, 6):
                with self.subTest(rows=rows, columns=columns):
                    places = [1] * 12 + [None] * 13
                    sheet = tuple(tuple(places[row * columns:(row + 1) * columns]) for row in range(rows))
                    self.assertEqual(checked(sheet), sheet)
                    self.assertEqual(len(stamps(sheet)), min(12, rows * columns))

    def test_each_number_of_stamps_is_a_sheet(self):
        for many in range(1, 13):
            with self.subTest(many=many):
                places = [9999] * many + [None] * (15 - many)
                sheet = tuple(tuple(places[row * 5:row * 5 + 5]) for row in range(3))
                self.assertEqual(checked(sheet), sheet)
                self.assertEqual(len(stamps(sheet)), many)

    def test_worths_at_the_edges(self):
        self.assertEqual(checked(ENDS), ((1, 9999),))
        self.assertEqual(checked(((9998,), (2,))), ((9998,), (2,)))

    def test_what_is_no_sheet_is_refused(self):
        for number, thing in enumerate(NO_SHEETS):
            for call in (checked, stamps):
                with self.subTest(number=number, call=call.__name__):
                    with self.assertRaises(NoSheet):
                        call(thing)
            with self.subTest(number=number, call="near"):
                with self.assertRaises(NoSheet):
                    near(thing, (0, 0))

    def test_the_sheet_is_refused_ahead_of_the_cell(self):
        for number, cell in enumerate(NO_CELLS_OF_APART):
            with self.subTest(number=number):
                with self.assertRaises(NoSheet):
                    near([], cell)
                with self.assertRaises(NoSheet):
                    near(((True,),), cell)


class Stamps(unittest.TestCase):
    def test_written_out(self):
        self.assertEqual(stamps(ONE), [(0, 0)])
        self.assertEqual(stamps(SQUARE), [(0, 0), (0, 1), (1, 0), (1, 1)])
        self.assertEqual(stamps(COLUMN), [(0, 0), (1, 0), (2, 0), (3, 0), (4, 0)])
        self.assertEqual(stamps(APART), [(0, 0), (0, 2), (1, 2), (2, 0)])
        self.assertEqual(stamps(((None, 9), (9, None))), [(0, 1), (1, 0)])

    def test_rising_lists_of_all_stamps(self):
        for sheet in SHEETS:
            with self.subTest(sheet=sheet):
                told = stamps(sheet)
                self.assertIs(type(told), list)
                self.assertEqual(told, plain_stamps(sheet))


class Near(unittest.TestCase):
    def test_written_out(self):
        self.assertEqual(near(ONE, (0, 0)), [])
        self.assertEqual(near(ROW, (0, 0)), [(0, 1)])
        self.assertEqual(near(ROW, (0, 4)), [(0, 3)])
        self.assertEqual(near(COLUMN, (2, 0)), [(1, 0), (3, 0)])
        self.assertEqual(near(SQUARE, (0, 0)), [(0, 1), (1, 0)])
        self.assertEqual(near(NINE, (1, 1)), [(0, 1), (1, 0), (1, 2), (2, 1)])
        self.assertEqual(near(TWELVE, (2, 3)), [(1, 3), (2, 2)])

    def test_holes_and_corners_are_not_near(self):
        self.assertEqual(near(RING, (0, 1)), [(0, 0), (0, 2)])
        self.assertEqual(near(APART, (0, 0)), [])
        self.assertEqual(near(APART, (1, 2)), [(0, 2)])
        for cell in stamps(SPREAD):
            self.assertEqual(near(SPREAD, cell), [])

    def test_against_the_plain_words(self):
        for sheet in SHEETS:
            for cell in plain_stamps(sheet):
                with self.subTest(sheet=sheet, cell=cell):
                    told = near(sheet, cell)
                    self.assertIs(type(told), list)
                    self.assertEqual(told, [other for other in plain_stamps(sheet) if are_near(cell, other)])

    def test_what_is_no_cell_is_refused(self):
        for number, thing in enumerate(NO_CELLS_OF_APART):
            with self.subTest(number=number):
                with self.assertRaises(NoCell):
                    near(APART, thing)

    def test_true_and_false_are_no_row_and_no_column(self):
        for cell in [(True, 0), (0, True), (True, True), (False, 1), (1, False)]:
            with self.subTest(cell=cell):
                with self.assertRaises(NoCell):
                    near(SQUARE, cell)


if __name__ == "__main__":
    unittest.main()
