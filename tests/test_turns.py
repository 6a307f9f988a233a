import unittest
from itertools import combinations

from stampsheet.errors import NoSheet
from stampsheet.pieces import counts
from stampsheet.sheets import checked
from stampsheet.tearing import fewest_tears
from stampsheet.turns import alike, least, mirrored, turned
from stampsheet.worths import first_missing, worths
from tests.plain import all_sheets, plain_eight, plain_least, plain_stamps, sums
from tests.samples import APART, COLUMN, ENDS, NINE, NO_SHEETS, ONE, RING, ROW, SHEETS, SPREAD, SQUARE, TWELVE

HOLED = ((1, None, 3), (4, 5, None))
LONG = ((None, 2, 3, 4, 5), (6, None, 8, 9, 10))
ALL = SHEETS + [HOLED, LONG]
# Sizes, and the places that all sheets of this size are made of; 9 and 10 are in another order as texts.
SMALL = [
    (1, 1, (None, 1, 2)), (1, 4, (None, 1, 9, 10)), (3, 1, (None, 1, 9, 10)), (2, 2, (None, 1, 9, 10)),
    (2, 3, (None, 9, 10)), (3, 2, (None, 9, 10)), (3, 3, (None, 1)),
]


def small_sheets():
    for rows, columns, places in SMALL:
        yield from all_sheets(rows, columns, places)


def times(call, many, sheet):
    for step in range(many):
        sheet = call(sheet)
    return sheet


class Turned(unittest.TestCase):
    def test_written_out(self):
        self.assertEqual(turned(ONE), ONE)
        self.assertEqual(turned(ROW), COLUMN)
        self.assertEqual(turned(COLUMN), ((5, 4, 3, 2, 1),))
        self.assertEqual(turned(SQUARE), ((3, 1), (4, 2)))
        self.assertEqual(turned(NINE), ((7, 4, 1), (8, 5, 2), (9, 6, 3)))
        self.assertEqual(turned(TWELVE), ((9, 5, 1), (10, 6, 2), (11, 7, 3), (12, 8, 4)))
        self.assertEqual(turned(HOLED), ((4, 1), (5, None), (None, 3)))
        self.assertEqual(turned(((None, 7), (None, None))), ((None, None), (None, 7)))

    def test_the_first_row_is_the_last_column_and_the_others_lie_before_it(self):
        for sheet in ALL + list(small_sheets()):
            told = turned(sheet)
            self.assertEqual(len(told), len(sheet[0]))
            for number, row in enumerate(sheet):
                self.assertEqual(tuple(line[len(sheet) - 1 - number] for line in told), row)

    def test_four_turns_lead_back_and_not_less(self):
        for sheet in ALL:
            with self.subTest(sheet=sheet):
                self.assertEqual(times(turned, 4, sheet), sheet)
        for sheet in (SQUARE, NINE, TWELVE, HOLED, LONG, ROW):
            for many in (1, 2, 3):
                with self.subTest(sheet=sheet, many=many):
                    self.assertNotEqual(times(turned, many, sheet), sheet)

    def test_two_turns_lead_to_each_last_thing_first(self):
        for sheet in ALL:
            with self.subTest(sheet=sheet):
                self.assertEqual(times(turned, 2, sheet), tuple(row[::-1] for row in sheet[::-1]))


class Mirrored(unittest.TestCase):
    def test_written_out(self):
        self.assertEqual(mirrored(ONE), ONE)
        self.assertEqual(mirrored(ROW), ((5, 4, 3, 2, 1),))
        self.assertEqual(mirrored(COLUMN), COLUMN)
        self.assertEqual(mirrored(SQUARE), ((2, 1), (4, 3)))
        self.assertEqual(mirrored(HOLED), ((3, None, 1), (None, 5, 4)))
        self.assertEqual(mirrored(LONG), ((5, 4, 3, 2, None), (10, 9, 8, None, 6)))

    def test_each_row_has_its_last_place_first(self):
        for sheet in ALL + list(small_sheets()):
            self.assertEqual(mirrored(sheet), tuple(row[::-1] for row in sheet))

    def test_two_mirrorings_lead_back(self):
        for sheet in ALL:
            with self.subTest(sheet=sheet):
                self.assertEqual(times(mirrored, 2, sheet), sheet)


class Sheets(unittest.TestCase):
    def test_what_is_told_is_a_sheet(self):
        for sheet in ALL:
            for call in (turned, mirrored, least):
                with self.subTest(sheet=sheet, call=call.__name__):
                    told = call(sheet)
                    self.assertEqual(checked(told), told)
                    self.assertIs(type(told), tuple)
                    self.assertEqual([type(row) for row in told], [tuple] * len(told))
                    self.assertEqual(len(plain_stamps(told)), len(plain_stamps(sheet)))

    def test_the_sheet_that_was_handed_in_stays(self):
        for sheet in ALL:
            before = repr(sheet)
            for call in (turned, mirrored, least):
                call(sheet)
            alike(sheet, sheet)
            self.assertEqual(repr(sheet), before)

    def test_turned_and_mirrored_as_often_as_one_likes_there_are_these_eight(self):
        for sheet in ALL:
            reached = {sheet}
            waiting = [sheet]
            while waiting:
                one = waiting.pop()
                for other in (turned(one), mirrored(one)):
                    if other not in reached:
                        reached.add(other)
                        waiting.append(other)
            with self.subTest(sheet=sheet):
                self.assertEqual(reached, set(plain_eight(sheet)))


class Least(unittest.TestCase):
    def test_fewer_rows_first(self):
        self.assertEqual(least(COLUMN), ROW)
        self.assertEqual(least(((1,), (2,))), ((1, 2),))
        # Place by place 1 2 is ahead of 1 9 7, but there it has a row more; so with a hole in the place of 2.
        self.assertEqual(least(((1, 2), (9, 8), (7, 6))), ((1, 9, 7), (2, 8, 6)))
        self.assertEqual(least(((1, 3), (None, 8), (5, 6), (2, 4))), ((1, None, 5, 2), (3, 8, 6, 4)))
        self.assertEqual(least(((1, None, 2), (9, 8, 7), (5, 5, 5), (6, 4, 3))),
                         ((1, 9, 5, 6), (None, 8, 5, 4), (2, 7, 5, 3)))

    def test_row_by_row_and_place_by_place(self):
        self.assertEqual(least(((4, 3), (2, 1))), SQUARE)
        self.assertEqual(least(((3, 1), (4, 2))), SQUARE)
        self.assertEqual(least(((1, 3), (2, 4))), SQUARE)
        # The first place is the same for two of them; then it is the next one.
        self.assertEqual(least(((1, 5, 2), (7, 7, 1))), ((1, 5, 2), (7, 7, 1)))
        self.assertEqual(least(((1, 7, 7), (2, 5, 1))), ((1, 5, 2), (7, 7, 1)))
        # The first row is the same for two of them; then it is the next one.
        self.assertEqual(least(((1, 1), (3, 2))), ((1, 1), (2, 3)))

    def test_a_hole_ahead_of_a_stamp(self):
        self.assertEqual(least(((1, None),)), ((None, 1),))
        self.assertEqual(least(((1, None, 5, 2),)), ((1, None, 5, 2),))
        self.assertEqual(least(((1, 5, None, 1),)), ((1, None, 5, 1),))
        self.assertEqual(least(((1, 2), (3, None))), ((None, 2), (3, 1)))
        self.assertEqual(least(((9, 1, 9999), (5, 5, None))), ((None, 5, 5), (9999, 1, 9)))

    def test_stamps_by_their_worths(self):
        self.assertEqual(least(((10, 9),)), ((9, 10),))
        self.assertEqual(least(((9, 10),)), ((9, 10),))
        self.assertEqual(least(((1000, 200), (30, 1000))), ((30, 1000), (1000, 200)))
        self.assertEqual(least(((100, 99, 100), (100, 20, 100))), ((100, 20, 100), (100, 99, 100)))
        self.assertEqual(least(((9999, 2),)), ((2, 9999),))

    def test_against_the_plain_search(self):
        for sheet in ALL:
            with self.subTest(sheet=sheet):
                self.assertEqual(least(sheet), plain_least(sheet))

    def test_all_small_sheets_against_the_plain_search(self):
        for sheet in small_sheets():
            if least(sheet) != plain_least(sheet):
                self.fail(f"{sheet}")

    def test_the_same_for_each_of_the_eight(self):
        for sheet in ALL:
            for other in plain_eight(sheet):
                with self.subTest(sheet=sheet, other=other):
                    self.assertEqual(least(other), least(sheet))
        for sheet in small_sheets():
            if {least(other) for other in plain_eight(sheet)} != {least(sheet)}:
                self.fail(f"{sheet}")

    def test_the_least_of_the_least_is_itself(self):
        for sheet in ALL:
            with self.subTest(sheet=sheet):
                self.assertEqual(least(least(sheet)), least(sheet))


class Alike(unittest.TestCase):
    def test_any_two_of_one_eight(self):
        for sheet in ALL:
            for one in plain_eight(sheet):
                for other in plain_eight(sheet):
                    with self.subTest(one=one, other=other):
                        self.assertIs(alike(one, other), True)

    def test_two_that_differ(self):
        for one, other in [
            (((1,),), ((2,),)),
            (SQUARE, ((1, 2), (3, 5))),
            # The same four stamps, but 1 lies beside others.
            (SQUARE, ((1, 2), (4, 3))),
            (NINE, ((1, 2, 3), (4, 5, 6), (7, 9, 8))),
            (TWELVE, TWELVE[:2] + ((9, 10, 11, 13),)),
            (RING, ((1, 1, 1), (1, 1, 1), (1, 1, 1))),
            (RING, ((1, 1, 1), (1, None, 1), (1, 1, 2))),
            (ENDS, ((1, 9998),)),
            (HOLED, ((1, None, 3), (4, None, 5))),
            (((1, 2, 3),), ((1, 3, 2),)),
        ]:
            with self.subTest(one=one, other=other):
                self.assertIs(alike(one, other), False)
                self.assertIs(alike(other, one), False)

    def test_unlike_sizes(self):
        for one, other in combinations([ONE, ROW, SQUARE, NINE, TWELVE, SPREAD, APART, HOLED], 2):
            with self.subTest(one=one, other=other):
                self.assertIs(alike(one, other), False)
        # The stamps alone are the same; holes around them make another sheet.
        self.assertIs(alike(((1, 2),), ((1, 2, None),)), False)
        self.assertIs(alike(((1, 2),), ((1, 2), (None, None))), False)
        self.assertIs(alike(((1, 1), (1, 1)), ((1, 1, 1, 1),)), False)
        self.assertIs(alike(((1, 2, 3), (4, 5, 6)), ((1, 2), (3, 4), (5, 6))), False)

    def test_a_row_and_its_column(self):
        self.assertIs(alike(ROW, COLUMN), True)
        self.assertIs(alike(((1, 2, 3),), ((3,), (2,), (1,))), True)

    def test_all_small_sheets_against_the_plain_search(self):
        sheets = list(all_sheets(2, 2, (None, 1, 2)))
        sheets.extend(all_sheets(1, 3, (None, 1)))
        sheets.extend(all_sheets(3, 1, (None, 1)))
        for one in sheets:
            for other in sheets:
                if alike(one, other) is not (other in plain_eight(one)):
                    self.fail(f"{one} {other}")


class TheSameForAllEight(unittest.TestCase):
    def test_worths_and_the_first_missing(self):
        for sheet in ALL:
            for most in (1, 2, 3, 12):
                all_worths = worths(sheet, most)
                missing = first_missing(sheet, most)
                for other in plain_eight(sheet):
                    with self.subTest(sheet=sheet, other=other, most=most):
                        self.assertEqual(worths(other, most), all_worths)
                        self.assertEqual(first_missing(other, most), missing)

    def test_how_many_pieces_there_are(self):
        for sheet in ALL:
            for other in plain_eight(sheet):
                with self.subTest(sheet=sheet, other=other):
                    self.assertEqual(counts(other), counts(sheet))

    def test_the_fewest_tears(self):
        for sheet, several in [
            (SQUARE, sums(10)), (HOLED, sums(13)), (RING, sums(8)), (ROW, sums(15)), (ONE, sums(7)),
            (NINE, [(45,), (15, 15, 15), (20, 25), (9, 36), (1, 44), (10, 17, 18), (1, 2, 3, 4, 5, 6, 7, 8, 9)]),
            (TWELVE, [(78,), (26, 26, 26), (39, 39), (12, 66), (13, 30, 35)]),
            (APART, [(5, 8, 13), (5, 6, 7, 8), (26,)]),
        ]:
            # More than twelve are no wants.
            tried = [list(wants) for wants in several if len(wants) <= 12]
            fewest = [fewest_tears(sheet, wants) for wants in tried]
            self.assertNotEqual(set(fewest), {None})
            for other in plain_eight(sheet):
                with self.subTest(sheet=sheet, other=other):
                    self.assertEqual([fewest_tears(other, wants) for wants in tried], fewest)


class NoSheets(unittest.TestCase):
    def test_what_is_no_sheet_is_refused(self):
        for number, thing in enumerate(NO_SHEETS):
            for call in (turned, mirrored, least):
                with self.subTest(number=number, call=call.__name__):
                    with self.assertRaises(NoSheet):
                        call(thing)

    def test_either_of_two_is_refused(self):
        for number, thing in enumerate(NO_SHEETS):
            with self.subTest(number=number):
                with self.assertRaises(NoSheet):
                    alike(thing, SQUARE)
                with self.assertRaises(NoSheet):
                    alike(SQUARE, thing)
                with self.assertRaises(NoSheet):
                    alike(thing, thing)


if __name__ == "__main__":
    unittest.main()
