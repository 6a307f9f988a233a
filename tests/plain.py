"""What the document says, searched for in the plainest way, to compare with."""

from itertools import combinations, product


def plain_stamps(sheet):
    return sorted(
        (row, column)
        for row in range(len(sheet))
        for column in range(len(sheet[row]))
        if sheet[row][column] is not None
    )


def are_near(one, other):
    rows = abs(one[0] - other[0])
    columns = abs(one[1] - other[1])
    return (rows, columns) in [(0, 1), (1, 0)]


def hang_together(cells):
    groups = [{cell} for cell in cells]
    for one, other in combinations(cells, 2):
        if are_near(one, other):
            joined = [group for group in groups if one in group or other in group]
            groups = [group for group in groups if group not in joined]
            groups.append(set().union(*joined))
    return len(groups) == 1


def choices(sheet):
    """All rising choices of cells, fewest first, those of one number as tuples."""
    cells = plain_stamps(sheet)
    for many in range(1, len(cells) + 1):
        yield from combinations(cells, many)


def all_patterns(rows, columns):
    """All sheets of this size, with worth 1 for each stamp; each way to leave holes."""
    for places in product((1, None), repeat=rows * columns):
        if any(places):
            yield tuple(places[row * columns:(row + 1) * columns] for row in range(rows))
