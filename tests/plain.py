"""What the document says, searched for in the plainest way, to compare with."""

from functools import cache, cmp_to_key
from itertools import combinations, count, product


def plain_stamps(sheet):
    return sorted(
        (row, column)
        for row in range(len(sheet))
        for column in range(len(sheet[row]))
        if sheet[row][column] is not None
    )


def are_near(one, other):
    rows = abs(one[0] - other[0])
    columns = abs(one[1] - other[1])
    return (rows, columns) in [(0, 1), (1, 0)]


def hang_together(cells):
    groups = [{cell} for cell in cells]
    for one, other in combinations(cells, 2):
        if are_near(one, other):
            joined = [group for group in groups if one in group or other in group]
            groups = [group for group in groups if group not in joined]
            groups.append(set().union(*joined))
    return len(groups) == 1


def choices(sheet):
    """All rising choices of cells, fewest first, those of one number as tuples."""
    cells = plain_stamps(sheet)
    for many in range(1, len(cells) + 1):
        yield from combinations(cells, many)


def all_sheets(rows, columns, places):
    """All sheets of this size with one of these places everywhere."""
    for chosen in product(places, repeat=rows * columns):
        if any(chosen):
            yield tuple(chosen[row * columns:(row + 1) * columns] for row in range(rows))


def all_patterns(rows, columns):
    """All sheets of this size, with worth 1 for each stamp; each way to leave holes."""
    return all_sheets(rows, columns, (1, None))


def plain_pieces(sheet):
    return [cells for cells in choices(sheet) if hang_together(cells)]


def plain_worth(sheet, cells):
    total = 0
    for row, column in cells:
        total += sheet[row][column]
    return total


def plain_worths(sheet, most):
    return sorted({plain_worth(sheet, cells) for cells in plain_pieces(sheet) if len(cells) <= most})


def plain_missing(sheet, most):
    had = plain_worths(sheet, most)
    return next(number for number in count(1) if number not in had)


def with_place(sheet, cell, place):
    rows = [list(row) for row in sheet]
    rows[cell[0]][cell[1]] = place
    return tuple(tuple(row) for row in rows)


def plain_needless(sheet):
    cells = plain_stamps(sheet)
    if len(cells) == 1:
        return []
    missing = plain_missing(sheet, 12)
    return [cell for cell in cells if not plain_missing(with_place(sheet, cell, None), 12) < missing]


def partings(cells):
    """All ways to put each of the cells into one of some groups."""
    if not cells:
        yield []
        return
    for parting in partings(cells[:-1]):
        for place, group in enumerate(parting):
            yield parting[:place] + [group + (cells[-1],)] + parting[place + 1:]
        yield parting + [(cells[-1],)]


def plain_tears(sheet, parts):
    pairs = [pair for pair in combinations(plain_stamps(sheet), 2) if are_near(*pair)]
    return sum(not any(one in part and other in part for part in parts) for one, other in pairs)


@cache
def plain_plans(sheet):
    """For each rising tuple of worths that the sheet can be torn into the fewest tears for it."""
    fewest = {}
    for parts in partings(plain_stamps(sheet)):
        if all(hang_together(part) for part in parts):
            wants = tuple(sorted(plain_worth(sheet, part) for part in parts))
            torn = plain_tears(sheet, parts)
            fewest[wants] = min(torn, fewest.get(wants, torn))
    return fewest


def sums(total, least=1):
    """All rising tuples of numbers that have this sum."""
    if total == 0:
        yield ()
    for number in range(least, total + 1):
        for rest in sums(total - number, number):
            yield (number,) + rest


def plain_runs(row):
    """The worths of a strip: of what lies between any two of its edges."""
    return {sum(row[start:end]) for start, end in combinations(range(len(row) + 1), 2)}


def plain_rows(many, reach):
    """All rows of so many stamps, none worth more than the reach, that have all worths up to it, in order."""
    for row in product(range(1, reach + 1), repeat=many):
        if plain_runs(row).issuperset(range(1, reach + 1)):
            yield row


def plain_moved(sheet, rows, columns, where):
    """A sheet of this size; where tells for each of its cells the one that its place comes from."""
    return tuple(
        tuple(sheet[where(row, column)[0]][where(row, column)[1]] for column in range(columns))
        for row in range(rows)
    )


def plain_eight(sheet):
    """All eight, written out: the sheet as it is and on its side, each with rows or columns from behind."""
    rows = len(sheet)
    columns = len(sheet[0])
    low = rows - 1
    right = columns - 1
    return [
        plain_moved(sheet, rows, columns, lambda row, column: (row, column)),
        plain_moved(sheet, rows, columns, lambda row, column: (row, right - column)),
        plain_moved(sheet, rows, columns, lambda row, column: (low - row, column)),
        plain_moved(sheet, rows, columns, lambda row, column: (low - row, right - column)),
        plain_moved(sheet, columns, rows, lambda row, column: (column, row)),
        plain_moved(sheet, columns, rows, lambda row, column: (column, right - row)),
        plain_moved(sheet, columns, rows, lambda row, column: (low - column, row)),
        plain_moved(sheet, columns, rows, lambda row, column: (low - column, right - row)),
    ]


def compared(one, other):
    """Below 0 if the one comes first, above 0 if the other does."""
    if len(one) != len(other):
        return len(one) - len(other)
    for row in range(len(one)):
        for column in range(len(one[0])):
            here = one[row][column]
            there = other[row][column]
            if here != there:
                if here is None:
                    return -1
                if there is None:
                    return 1
                return here - there
    return 0


def plain_least(sheet):
    return sorted(plain_eight(sheet), key=cmp_to_key(compared))[0]


def plain_shown(sheet):
    text = ""
    for row in sheet:
        for column, place in enumerate(row):
            text += " " if column else ""
            text += "." if place is None else f"{place:d}"
        text += "\n"
    return text
