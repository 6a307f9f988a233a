import unittest
from itertools import product

from stampsheet.errors import NoSheet, NoText
from stampsheet.sheets import checked
from stampsheet.texts import read, shown
from tests.plain import all_sheets, plain_shown
from tests.samples import APART, COLUMN, ENDS, NINE, NO_SHEETS, NO_TEXTS, ONE, RING, ROW, SHEETS, SPREAD, SQUARE
from tests.samples import TWELVE

# Each text by the sheet that is written so.
WRITTEN = [
    (ONE, "7\n"),
    (ROW, "1 2 3 4 5\n"),
    (COLUMN, "1\n2\n3\n4\n5\n"),
    (SQUARE, "1 2\n3 4\n"),
    (NINE, "1 2 3\n4 5 6\n7 8 9\n"),
    (TWELVE, "1 2 3 4\n5 6 7 8\n9 10 11 12\n"),
    (ENDS, "1 9999\n"),
    (RING, "1 1 1\n1 . 1\n1 1 1\n"),
    (APART, "5 . 6\n. . 7\n8 . .\n"),
    (SPREAD, ". 1 . 2 .\n3 . 4 . 5\n. 6 . 7 .\n8 . 9 . 10\n. 11 . 12 .\n"),
    (((None, 10), (None, None)), ". 10\n. .\n"),
    (((100, 1000, 20),), "100 1000 20\n"),
    (((None,), (3,)), ".\n3\n"),
]

# Sizes, and the places that all sheets of this size are made of.
SMALL = [
    (1, 1, (1, 9, 10, 99, 100, 999, 1000, 9999)), (1, 3, (None, 1, 10, 9999)), (3, 1, (None, 1, 10, 9999)),
    (2, 2, (None, 1, 20, 300)), (2, 3, (None, 7)), (3, 3, (None, 10)), (1, 5, (None, 1, 10)), (5, 1, (None, 1, 10)),
]


def read_or_none(text):
    try:
        return read(text)
    except NoText:
        return None


class Shown(unittest.TestCase):
    def test_written_out(self):
        for sheet, text in WRITTEN:
            with self.subTest(sheet=sheet):
                self.assertEqual(shown(sheet), text)

    def test_against_the_plain_words(self):
        for rows, columns, places in SMALL:
            for sheet in all_sheets(rows, columns, places):
                self.assertEqual(shown(sheet), plain_shown(sheet))

    def test_a_text(self):
        for sheet in SHEETS:
            self.assertIs(type(shown(sheet)), str)

    def test_what_is_no_sheet_is_refused(self):
        for number, thing in enumerate(NO_SHEETS):
            with self.subTest(number=number):
                with self.assertRaises(NoSheet):
                    shown(thing)


class Read(unittest.TestCase):
    def test_written_out(self):
        for sheet, text in WRITTEN:
            with self.subTest(text=text):
                told = read(text)
                self.assertEqual(told, sheet)
                self.assertEqual(checked(told), sheet)
                self.assertIs(type(told), tuple)
                self.assertEqual([type(row) for row in told], [tuple] * len(sheet))
                self.assertEqual([[type(place) for place in row] for row in told],
                                 [[type(place) for place in row] for row in sheet])

    def test_what_is_written_is_read_back(self):
        for sheet in SHEETS:
            with self.subTest(sheet=sheet):
                self.assertEqual(read(shown(sheet)), sheet)
        for rows, columns, places in SMALL:
            for sheet in all_sheets(rows, columns, places):
                self.assertEqual(read(plain_shown(sheet)), sheet)

    def test_every_worth_is_read_back(self):
        for number in range(1, 10000):
            if read(f"{number}\n") != ((number,),) or shown(((number,),)) != f"{number}\n":
                self.fail(f"{number}")

    def test_each_size_and_number_of_stamps_is_read_back(self):
        for rows, columns, stamps in product(range(1, 6), range(1, 6), range(1, 13)):
            places = ([9999] * stamps + [None] * 25)[:rows * columns]
            sheet = tuple(tuple(places[row * columns:(row + 1) * columns]) for row in range(rows))
            self.assertEqual(read(shown(sheet)), sheet)

    def test_what_is_no_sheets_text_is_refused(self):
        for number, thing in enumerate(NO_TEXTS):
            with self.subTest(number=number, thing=thing[:20] if isinstance(thing, str) else ""):
                with self.assertRaises(NoText):
                    read(thing)

    def test_no_worth_below_1_or_above_9999(self):
        for word in ["0", "-1", "10000", "10001", "99990", "100000"]:
            for text in (f"{word}\n", f"1 {word}\n", f"{word} 1\n", f"1\n{word}\n"):
                with self.subTest(text=text):
                    with self.assertRaises(NoText):
                        read(text)

    def test_of_all_short_texts_those_alone_that_a_sheet_is_written_as(self):
        # That all texts of sheets are read is asked above; here, that no other one is.
        many = 0
        for length in range(8):
            for signs in product("01. \n", repeat=length):
                text = "".join(signs)
                told = read_or_none(text)
                if told is not None:
                    many += 1
                    if plain_shown(told) != text or checked(told) != told:
                        self.fail(repr(text))
        self.assertGreater(many, 50)

    def test_one_other_sign_at_any_place_of_a_text(self):
        # Whatever sign comes in, takes a place or goes: what is read then is what is written so.
        for text in ("1 .\n20 3\n", "10\n"):
            for place in range(len(text) + 1):
                for sign in ["", " ", "\n", ".", "0", "5", "-", "+", "_", "a", ",", "\t", "\r", "\x0b", "\x0c", "\x1c",
                             "\x85", "\u00a0", "\u0661", "\u2028", "\x00", "\ud800"]:
                    for other in (text[:place] + sign + text[place:], text[:place] + sign + text[place + 1:]):
                        told = read_or_none(other)
                        if told is not None and plain_shown(told) != other:
                            self.fail(repr(other))


if __name__ == "__main__":
    unittest.main()
