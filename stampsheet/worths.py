"""Worths: what pieces are worth, which worths a sheet has, and which stamps it could spare."""

from stampsheet.checks import is_whole_from
from stampsheet.errors import NoNumber, NoPiece
from stampsheet.pieces import is_piece, pieces
from stampsheet.sheets import MOST_STAMPS, checked, stamp_cells


def piece_worth(sheet, piece):
    # For a piece that is checked already, as are those that a search finds.
    return sum([sheet[row][column] for row, column in piece])


def rising_worths(sheet, some):
    return sorted(set([piece_worth(sheet, piece) for piece in some]))


def least_missing(rising):
    missing = 1
    for number in rising:
        if number == missing:
            missing += 1
    return missing


def worth(sheet, piece):
    if not is_piece(sheet, piece):
        raise NoPiece("this is no piece of the sheet")
    return piece_worth(sheet, piece)


def worths(sheet, most):
    return rising_worths(sheet, pieces(sheet, most))


def first_missing(sheet, most):
    return least_missing(worths(sheet, most))


def piece_for(sheet, number):
    checked(sheet)
    if not is_whole_from(number, 1):
        raise NoNumber("this is no whole number from 1 on")
    for piece in pieces(sheet, MOST_STAMPS):
        if piece_worth(sheet, piece) == number:
            return piece
    return None


def missing_without(sheet, every, cell):
    # The pieces of a sheet with a hole at the cell are those that never had the cell.
    return least_missing(rising_worths(sheet, [piece for piece in every if cell not in piece]))


def needless(sheet):
    every = pieces(sheet, MOST_STAMPS)
    cells = stamp_cells(sheet)
    if len(cells) == 1:
        return []
    missing = least_missing(rising_worths(sheet, every))
    return [cell for cell in cells if missing_without(sheet, every, cell) >= missing]
