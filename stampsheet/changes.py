"""A sheet with another worth at one cell, and the worths that go and come by it."""

from stampsheet.checks import is_whole
from stampsheet.errors import NoNumber
from stampsheet.pieces import checked_number
from stampsheet.sheets import MOST_WORTH, checked, checked_cell
from stampsheet.worths import worths


def replaced(places, index, thing):
    return places[:index] + (thing,) + places[index + 1:]


def changed(sheet, cell, number):
    checked(sheet)
    checked_cell(sheet, cell)
    if not is_whole(number, 1, MOST_WORTH):
        raise NoNumber("this is no worth of a stamp")
    row = replaced(sheet[cell[0]], cell[1], number)
    return replaced(sheet, cell[0], row)


def gone_and_come(sheet, most, cell, number):
    # Most is refused ahead of the cell, so it is looked at before the sheet is changed.
    checked(sheet)
    checked_number(most)
    other = changed(sheet, cell, number)
    # A worth is gone only if no piece has it any more, those without the cell among them.
    before = worths(sheet, most)
    after = worths(other, most)
    return (sorted(set(before) - set(after)), sorted(set(after) - set(before)))
