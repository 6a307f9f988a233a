"""Sheets turned and mirrored, and which of them are alike."""

from stampsheet.sheets import checked


def column_from_below(sheet, column):
    return tuple([row[column] for row in reversed(sheet)])


def turned(sheet):
    checked(sheet)
    return tuple([column_from_below(sheet, column) for column in range(len(sheet[0]))])


def mirrored(sheet):
    checked(sheet)
    return tuple([tuple(reversed(row)) for row in sheet])


def all_eight(sheet):
    eight = []
    way = sheet
    for quarter in range(4):
        eight.append(way)
        eight.append(mirrored(way))
        way = turned(way)
    return eight


def place_rank(place):
    # Every worth is 1 or more, so 0 puts a hole ahead of all stamps.
    return 0 if place is None else place


def sheet_rank(sheet):
    ranks = [len(sheet)]
    # Those with as many rows have as many columns too: place by place is row by row.
    for row in sheet:
        ranks.extend([place_rank(place) for place in row])
    return ranks


def least(sheet):
    checked(sheet)
    return min(all_eight(sheet), key=sheet_rank)


def alike(one, other):
    return least(one) == least(other)
