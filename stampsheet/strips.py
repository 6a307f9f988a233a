"""Strips: sheets of one row without holes, and how far they can reach."""

from stampsheet.checks import is_whole
from stampsheet.errors import NoNumber
from stampsheet.worths import least_missing

MOST_STRIP_STAMPS = 4


def strip_worths(row):
    # The pieces of a strip are its runs, so they need not be searched for.
    had = []
    for start in range(len(row)):
        had.extend([sum(row[start:end]) for end in range(start + 1, len(row) + 1)])
    return had


def reaches(row, reach):
    return least_missing(sorted(strip_worths(row))) > reach


def rows_of(many, highest):
    # The longer rows of one row stand together and rise, so all stay in order of tuples.
    rows = [()]
    for place in range(many):
        longer = []
        for row in rows:
            longer.extend([row + (number,) for number in range(1, highest + 1)])
        rows = longer
    return rows


def first_row(many, reach):
    for row in rows_of(many, reach):
        if reaches(row, reach):
            return row
    return None


def best_strip(many):
    if not is_whole(many, 1, MOST_STRIP_STAMPS):
        raise NoNumber("this is no number of stamps of a strip, 1 to 4")
    # A strip has no more worths than runs; that of ones alone reaches 1 at least.
    reach = many * (many + 1) // 2
    row = first_row(many, reach)
    while row is None:
        reach -= 1
        row = first_row(many, reach)
    return (reach, row)
