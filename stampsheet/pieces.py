"""Pieces: stamps of a sheet that hang together."""

from stampsheet.checks import is_whole
from stampsheet.errors import NoNumber
from stampsheet.sheets import MOST_STAMPS, checked, is_cell, near_cells, stamp_cells, stamps


def checked_number(number):
    if not is_whole(number, 1, MOST_STAMPS):
        raise NoNumber("this is no number of stamps")
    return number


def is_rising(cells):
    return all([one < other for one, other in zip(cells, cells[1:])])


def hangs_together(sheet, cells):
    reached = {cells[0]: True}
    waiting = [cells[0]]
    while len(waiting) > 0:
        cell = waiting.pop()
        for other in near_cells(sheet, cell):
            if other in cells and other not in reached:
                reached[other] = True
                waiting.append(other)
    return len(reached) == len(cells)


def is_piece(sheet, thing):
    checked(sheet)
    if not isinstance(thing, tuple) or len(thing) == 0:
        return False
    # Only what are cells can be compared with one another.
    if not all([is_cell(sheet, cell) for cell in thing]):
        return False
    return is_rising(thing) and hangs_together(sheet, thing)


def grown(sheet, smaller):
    # One comes to the same piece from several smaller ones; a dict keeps it once.
    larger = {}
    for piece in smaller:
        for cell in piece:
            for other in near_cells(sheet, cell):
                if other not in piece:
                    larger[tuple(sorted(piece + (other,)))] = True
    return sorted(larger)


def by_number(sheet, most):
    # Every piece of two or more has a cell without which it still hangs together,
    # so growing those of one stamp less by a near cell misses none.
    same = [(cell,) for cell in stamp_cells(sheet)]
    numbered = [same]
    while len(numbered) < most:
        same = grown(sheet, same)
        numbered.append(same)
    return numbered


def pieces(sheet, most):
    checked(sheet)
    checked_number(most)
    ordered = []
    for same in by_number(sheet, most):
        ordered.extend(same)
    return ordered


def counts(sheet):
    many = len(stamps(sheet))
    return [len(same) for same in by_number(sheet, many)]
