"""Sheets written as texts, and read back."""

from stampsheet.errors import NoText
from stampsheet.sheets import MOST_WORTH, checked, is_sheet

DIGITS = "0123456789"


def shown_place(place):
    return "." if place is None else str(place)


def shown_line(row):
    return " ".join([shown_place(place) for place in row]) + "\n"


def shown(sheet):
    checked(sheet)
    return "".join([shown_line(row) for row in sheet])


def is_shown_worth(word):
    # Asked sign by sign, since int also reads what is never written: +1, 01, 1_0, a tab ahead,
    # digits of other scripts. It fails at thousands of digits, so those that are too many go first.
    if not 1 <= len(word) <= len(str(MOST_WORTH)) or word[0] == "0":
        return False
    return all([sign in DIGITS for sign in word])


def read_place(word):
    if word == ".":
        return None
    if not is_shown_worth(word):
        raise NoText("this has a place that is no worth and no hole")
    return int(word)


def read_line(line):
    return tuple([read_place(word) for word in line.split(" ")])


def read(text):
    if not isinstance(text, str) or not text.endswith("\n"):
        raise NoText("this is no text, or its last line is not ended")
    sheet = tuple([read_line(line) for line in text[:-1].split("\n")])
    if not is_sheet(sheet):
        raise NoText("this is no sheet's text")
    return sheet
