"""Sheets torn into pieces: plans for wants, parts and their tears."""

from stampsheet.checks import is_whole_from
from stampsheet.errors import NoPiece, NoWants
from stampsheet.pieces import checked_number, is_piece, pieces
from stampsheet.sheets import MOST_STAMPS, checked, near_cells, stamp_cells
from stampsheet.worths import piece_worth

MOST_WANTS = 12


def checked_wants(wants):
    if not isinstance(wants, list) or not 1 <= len(wants) <= MOST_WANTS:
        raise NoWants("this is no list of 1 to 12 numbers")
    if not all([is_whole_from(number, 1) for number in wants]):
        raise NoWants("one of these is no whole number from 1 on")
    return wants


def are_parts(sheet, thing):
    if not isinstance(thing, list):
        return False
    # Only what are pieces have cells that can be put in order.
    if not all([is_piece(sheet, part) for part in thing]):
        return False
    cells = []
    for part in thing:
        cells.extend(part)
    return sorted(cells) == stamp_cells(sheet)


def near_pairs(sheet):
    pairs = []
    for cell in stamp_cells(sheet):
        pairs.extend([(cell, other) for other in near_cells(sheet, cell) if cell < other])
    return pairs


def kept_pairs(pairs, piece):
    return len([pair for pair in pairs if pair[0] in piece and pair[1] in piece])


def tears(sheet, parts):
    checked(sheet)
    if not are_parts(sheet, parts):
        raise NoPiece("these are no parts of the sheet")
    pairs = near_pairs(sheet)
    return len(pairs) - sum([kept_pairs(pairs, part) for part in parts])


def marked(cells, piece):
    # A bit for each cell of the piece: the search asks often whether a piece still fits.
    return sum([1 << place for place, cell in enumerate(cells) if cell in piece])


def lowest_bit(marks):
    return marks & -marks


def choices_for(sheet, wants):
    # By their first cells, since the search asks for the pieces that begin with a certain one.
    cells = stamp_cells(sheet)
    pairs = near_pairs(sheet)
    choices = {}
    for piece in pieces(sheet, MOST_STAMPS):
        worth = piece_worth(sheet, piece)
        if worth in wants:
            marks = marked(cells, piece)
            choice = (marks, worth, kept_pairs(pairs, piece), piece)
            choices.setdefault(lowest_bit(marks), []).append(choice)
    return choices


def without(wants, number):
    rest = list(wants)
    rest.remove(number)
    return rest


def best_parts(choices, free, wants):
    # The wants have the worth of the free stamps in sum: with the last stamp goes the last want.
    if free == 0:
        return (0, [])
    best = None
    # The first free stamp lies in some part, and that part begins with it, as those ahead of it
    # are taken; so no way to part the stamps is missed and none is tried twice.
    for marks, worth, kept, piece in choices.get(lowest_bit(free), []):
        if worth in wants and marks & free == marks:
            rest = best_parts(choices, free - marks, without(wants, worth))
            if rest is not None and (best is None or kept + rest[0] > best[0]):
                best = (kept + rest[0], [piece] + rest[1])
    return best


def in_order_of(wants, sheet, parts):
    left = list(parts)
    plan = []
    for want in wants:
        fitting = [part for part in left if piece_worth(sheet, part) == want]
        plan.append(fitting[0])
        left.remove(fitting[0])
    return plan


def torn(sheet, wants):
    # Of several plans it is one that keeps the most near pairs, so one with the fewest tears.
    checked(sheet)
    checked_wants(wants)
    cells = stamp_cells(sheet)
    if sum(wants) != piece_worth(sheet, cells):
        return None
    best = best_parts(choices_for(sheet, wants), marked(cells, cells), wants)
    if best is None:
        return None
    return in_order_of(wants, sheet, best[1])


def fewest_tears(sheet, wants):
    plan = torn(sheet, wants)
    if plan is None:
        return None
    return tears(sheet, plan)


def fair(sheet, many):
    checked(sheet)
    checked_number(many)
    whole = piece_worth(sheet, stamp_cells(sheet))
    if whole % many != 0:
        return None
    return torn(sheet, [whole // many] * many)
