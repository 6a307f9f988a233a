import unittest

from stampsheet.changes import changed, gone_and_come
from stampsheet.errors import NoCell, NoNumber, NoSheet
from stampsheet.sheets import checked
from tests.plain import all_sheets, plain_stamps, plain_worths, with_place
from tests.samples import APART, ENDS, NINE, NO_CELLS_OF_APART, NO_NUMBERS, NO_SHEETS, NO_WORTHS, ONE, RING
from tests.samples import ROW, SHEETS, SPREAD, SQUARE, TWELVE


class Changed(unittest.TestCase):
    def test_written_out(self):
        self.assertEqual(changed(ONE, (0, 0), 8), ((8,),))
        self.assertEqual(changed(SQUARE, (0, 1), 9), ((1, 9), (3, 4)))
        self.assertEqual(changed(SQUARE, (1, 0), 9999), ((1, 2), (9999, 4)))
        self.assertEqual(changed(APART, (1, 2), 1), ((5, None, 6), (None, None, 1), (8, None, None)))
        self.assertEqual(changed(ROW, (0, 4), 12), ((1, 2, 3, 4, 12),))

    def test_each_cell(self):
        for sheet in SHEETS:
            for cell in plain_stamps(sheet):
                for number in (1, 2, 5000, 9999):
                    with self.subTest(sheet=sheet, cell=cell, number=number):
                        told = changed(sheet, cell, number)
                        self.assertEqual(told, with_place(sheet, cell, number))
                        self.assertIs(type(told), tuple)
                        self.assertEqual({type(row) for row in told}, {tuple})
                        self.assertEqual(checked(told), told)

    def test_the_old_worth(self):
        for sheet in SHEETS:
            for cell in plain_stamps(sheet):
                with self.subTest(sheet=sheet, cell=cell):
                    self.assertEqual(changed(sheet, cell, sheet[cell[0]][cell[1]]), sheet)

    def test_the_sheet_that_was_handed_in_stays(self):
        sheet = ((1, 2), (3, 4))
        changed(sheet, (0, 0), 9)
        gone_and_come(sheet, 12, (0, 0), 9)
        self.assertEqual(sheet, ((1, 2), (3, 4)))

    def test_what_is_no_worth_is_refused(self):
        for number, thing in enumerate(NO_WORTHS):
            for sheet in (ONE, SQUARE):
                with self.subTest(number=number):
                    with self.assertRaises(NoNumber):
                        changed(sheet, (0, 0), thing)
                    with self.assertRaises(NoNumber):
                        gone_and_come(sheet, 12, (0, 0), thing)

    def test_true_is_no_worth_even_where_1_is_the_old_one(self):
        with self.assertRaises(NoNumber):
            changed(((1,),), (0, 0), True)
        with self.assertRaises(NoNumber):
            gone_and_come(((1,),), 12, (0, 0), True)

    def test_what_is_no_cell_is_refused(self):
        for number, thing in enumerate(NO_CELLS_OF_APART):
            with self.subTest(number=number):
                with self.assertRaises(NoCell):
                    changed(APART, thing, 5)
                with self.assertRaises(NoCell):
                    gone_and_come(APART, 12, thing, 5)

    def test_what_is_no_sheet_is_refused(self):
        for number, thing in enumerate(NO_SHEETS):
            with self.subTest(number=number):
                with self.assertRaises(NoSheet):
                    changed(thing, (0, 0), 5)
                with self.assertRaises(NoSheet):
                    gone_and_come(thing, 12, (0, 0), 5)


def plain_gone_and_come(sheet, most, cell, number):
    before = plain_worths(sheet, most)
    after = plain_worths(with_place(sheet, cell, number), most)
    gone = [worth for worth in before if worth not in after]
    come = [worth for worth in after if worth not in before]
    return (gone, come)


class GoneAndCome(unittest.TestCase):
    def test_written_out(self):
        self.assertEqual(gone_and_come(ONE, 1, (0, 0), 8), ([7], [8]))
        self.assertEqual(gone_and_come(ENDS, 1, (0, 1), 2), ([9999], [2]))
        self.assertEqual(gone_and_come(ENDS, 12, (0, 1), 2), ([9999, 10000], [2, 3]))
        self.assertEqual(gone_and_come(SQUARE, 1, (0, 0), 5), ([1], [5]))
        self.assertEqual(gone_and_come(SQUARE, 12, (0, 0), 5), ([1], [5, 11, 12, 14]))

    def test_a_worth_that_a_piece_without_the_cell_has_stays(self):
        self.assertEqual(gone_and_come(((2, None, 2),), 12, (0, 0), 3), ([], [3]))
        self.assertEqual(gone_and_come(((3, None, 2),), 12, (0, 0), 2), ([3], []))
        self.assertEqual(gone_and_come(((2, None, 1, 1),), 12, (0, 0), 5), ([], [5]))
        self.assertEqual(gone_and_come(((5, None, 1, 1),), 12, (0, 0), 2), ([5], []))

    def test_a_worth_that_another_piece_with_the_cell_has_now_stays(self):
        self.assertEqual(gone_and_come(((1, 2),), 12, (0, 1), 1), ([3], []))
        self.assertEqual(gone_and_come(((1, 2),), 12, (0, 1), 3), ([2], [4]))

    def test_the_old_worth_gives_two_empty_lists(self):
        for sheet in SHEETS:
            for cell in plain_stamps(sheet):
                for most in (1, 12):
                    with self.subTest(sheet=sheet, cell=cell, most=most):
                        told = gone_and_come(sheet, most, cell, sheet[cell[0]][cell[1]])
                        self.assertEqual(told, ([], []))
                        self.assertIsNot(told[0], told[1])

    def test_against_the_worths_of_both_sheets(self):
        for sheet in [ONE, ROW, SQUARE, ENDS, RING, APART, NINE]:
            for cell in plain_stamps(sheet):
                for most in (1, 2, 3, 12):
                    for number in (1, 4, 11, 9999):
                        with self.subTest(sheet=sheet, most=most, cell=cell, number=number):
                            told = gone_and_come(sheet, most, cell, number)
                            self.assertEqual(told, plain_gone_and_come(sheet, most, cell, number))
                            self.assertEqual([type(told)] + [type(part) for part in told], [tuple, list, list])

    def test_twelve_stamps_against_the_worths_of_both_sheets(self):
        for sheet in (TWELVE, SPREAD):
            for cell in plain_stamps(sheet)[::5]:
                for most in (1, 4, 12):
                    with self.subTest(sheet=sheet, most=most, cell=cell):
                        told = gone_and_come(sheet, most, cell, 3)
                        self.assertEqual(told, plain_gone_and_come(sheet, most, cell, 3))

    def test_all_small_sheets_against_the_worths_of_both_sheets(self):
        for sheet in all_sheets(2, 2, (None, 1, 2, 3)):
            for cell in plain_stamps(sheet):
                for most in (1, 2, 12):
                    for number in (1, 2, 4):
                        told = gone_and_come(sheet, most, cell, number)
                        if told != plain_gone_and_come(sheet, most, cell, number):
                            self.fail(f"{sheet} {most} {cell} {number}")

    def test_what_is_no_number_of_stamps_is_refused(self):
        for number, thing in enumerate(NO_NUMBERS):
            with self.subTest(number=number):
                with self.assertRaises(NoNumber):
                    gone_and_come(SQUARE, thing, (0, 0), 5)


if __name__ == "__main__":
    unittest.main()
