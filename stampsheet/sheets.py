"""Sheets, their cells, and which cells are near.

No refusal shows what was handed in: it may be a thing that can't be written out.
"""

from stampsheet.checks import is_whole
from stampsheet.errors import NoCell, NoSheet

MOST_ROWS = 5
MOST_COLUMNS = 5
MOST_STAMPS = 12
MOST_WORTH = 9999


def is_place(thing):
    return thing is None or is_whole(thing, 1, MOST_WORTH)


def is_row(thing):
    if not isinstance(thing, tuple) or not 1 <= len(thing) <= MOST_COLUMNS:
        return False
    return all([is_place(place) for place in thing])


def is_sheet(thing):
    if not isinstance(thing, tuple) or not 1 <= len(thing) <= MOST_ROWS:
        return False
    if not all([is_row(row) for row in thing]):
        return False
    if any([len(row) != len(thing[0]) for row in thing]):
        return False
    return 1 <= len(stamp_cells(thing)) <= MOST_STAMPS


def stamp_cells(sheet):
    # For a sheet that is checked already, as with near_cells: the search for pieces asks often.
    cells = []
    for row, places in enumerate(sheet):
        for column, place in enumerate(places):
            if place is not None:
                cells.append((row, column))
    return cells


def is_cell(sheet, thing):
    if not isinstance(thing, tuple) or len(thing) != 2:
        return False
    if not is_whole(thing[0], 0, len(sheet) - 1):
        return False
    if not is_whole(thing[1], 0, len(sheet[0]) - 1):
        return False
    return sheet[thing[0]][thing[1]] is not None


def near_cells(sheet, cell):
    row = cell[0]
    column = cell[1]
    # Written in rising order, so that what is left of them rises too.
    around = [(row - 1, column), (row, column - 1), (row, column + 1), (row + 1, column)]
    return [other for other in around if is_cell(sheet, other)]


def checked(sheet):
    if not is_sheet(sheet):
        raise NoSheet("this is no sheet")
    return sheet


def stamps(sheet):
    return stamp_cells(checked(sheet))


def checked_cell(sheet, cell):
    if not is_cell(sheet, cell):
        raise NoCell("this is no cell of a stamp of the sheet")
    return cell


def near(sheet, cell):
    checked(sheet)
    return near_cells(sheet, checked_cell(sheet, cell))
