"""Sums: tables put together of two, and the blocks of a table that hang together."""

from signbook.errors import NoSum, TooMany
from signbook.nets import joined
from signbook.tables import MOST, check_table, shape


def beside(one, other):
    """Tell the table with the one's rows and columns ahead of the other's, and noughts where these meet."""
    check_table(one)
    check_table(other)
    return summed(one, [0 for _ in one], [0 for _ in other[0]], [0 for _ in other], [0 for _ in one[0]], other)


def two_sum(one, other):
    """Tell the sum of two tables in which the one's last column meets the other's first row."""
    check_table(one)
    check_table(other)
    left = [row[:-1] for row in one]
    right = other[1:]
    return summed(left, [row[-1] for row in one], other[0], [0 for _ in right], [0 for _ in left[0]], right)


def three_sum(one, other):
    """Tell the sum of two tables in which the one's last two columns and row meet the other's first ones."""
    check_table(one)
    check_table(other)
    if not is_first_part(one):
        raise NoSum(0)
    if not is_second_part(other):
        raise NoSum(1)
    left = [row[:-2] for row in one[:-1]]
    right = [row[2:] for row in other[1:]]
    return summed(left, [row[-1] for row in one[:-1]], other[0][2:], [row[0] for row in other[1:]], one[-1][:-2], right)


def is_first_part(table):
    """Tell whether the last two columns are alike but for their last entries, 0 and 1, and there is enough beside."""
    if len(table) < 2 or len(table[0]) < 3:
        return False
    return table[-1][-2:] == [0, 1] and all([row[-2] == row[-1] for row in table[:-1]])


def is_second_part(table):
    """Tell whether the first two columns are alike but for their first entries, 1 and 0, and there is enough beside."""
    if len(table) < 2 or len(table[0]) < 3:
        return False
    return table[0][:2] == [1, 0] and all([row[0] == row[1] for row in table[1:]])


def summed(left, upper, across, lower, along, right):
    """Tell the left rows with upper times across beside, and below these lower times along with the right rows beside.

    The left rows may be empty, and there may be no right ones.
    """
    if len(left) + len(right) > MOST or len(along) + len(across) > MOST:
        raise TooMany(MOST)
    above = [row + [number * entry for entry in across] for row, number in zip(left, upper)]
    below = [[number * entry for entry in along] + row for row, number in zip(right, lower)]
    return above + below


def parts(table):
    """Tell the blocks (rows, columns) of rows and columns that hang together by entries other than 0."""
    many, wide = shape(table)
    groups = list(range(many + wide))
    for row in range(many):
        for column in range(wide):
            if table[row][column] != 0:
                groups = joined(groups, row, many + column)
    blocks = {}
    # The rows stand ahead of the columns here, so the blocks come in the order that is told.
    for place, group in enumerate(groups):
        rows, columns = blocks.setdefault(group, ([], []))
        if place < many:
            rows.append(place)
        else:
            columns.append(place - many)
    return list(blocks.values())
