"""Packings of columns and covers by rows, pairs and lines, of tables of noughts and ones."""

from itertools import combinations

from signbook.errors import TooMany
from signbook.lists import all_lists, check_small
from signbook.tables import MOST, check_ones, shape, turned

MOST_ROWS = 5
MOST_WORTH = 3


def packed(table):
    """Tell the greatest packing and the least cover, of several the least list."""
    check_ones(table)
    packings = all_packings(table, filled(table))
    # Of several of the greatest size max keeps the first, which is the least list.
    return (max(packings, key=len), least_cover(table))


def filled(table):
    """Tell the columns that are not bare."""
    return [at for at, column in enumerate(turned(table)) if 1 in column]


def all_packings(table, columns):
    """Tell all packings of some columns that are not bare: those of fewer ahead, of as many the least ahead."""
    return [
        list(some)
        for size in range(len(columns) + 1)
        for some in combinations(columns, size)
        if all([sum([row[at] for at in some]) <= 1 for row in table])
    ]


def least_cover(table):
    """Tell the first cover of the fewest rows."""
    columns = filled(table)
    covers = [
        list(rows)
        for size in range(len(table) + 1)
        for rows in combinations(range(len(table)), size)
        if all([any([table[row][at] == 1 for row in rows]) for at in columns])
    ]
    return covers[0]


def bought(table, worths):
    """Tell the packing of the most worth, and the numbers of rows of the least sum that pay for all worths."""
    check_ones(table)
    check_small(worths, len(table[0]), MOST_WORTH, "worths")
    if len(table) > MOST_ROWS:
        raise TooMany(MOST_ROWS)
    packings = all_packings(table, [at for at in filled(table) if worths[at] > 0])
    dear = min(packings, key=lambda some: (-sum([worths[column] for column in some]), some))
    return (dear, least_copies(table, worths))


def least_copies(table, worths):
    """Tell the first list of numbers of rows, of the least sum, that pays for all worths."""
    columns = filled(table)
    # More of a row than the greatest worth never pays for more.
    numbers = list(range(max(worths) + 1))
    paying = [copies for copies in all_lists([numbers for _ in table]) if pays(table, worths, columns, copies)]
    # The lists are sorted, and of several of one sum min keeps the first.
    return min(paying, key=sum)


def pays(table, worths, columns, copies):
    """Tell whether in each of the columns the numbers of the rows that have a one there come to its worth."""
    totals = [sum([row[at] * many for row, many in zip(table, copies)]) for at in columns]
    return all([total >= worths[at] for total, at in zip(totals, columns)])


def paired(table):
    """Tell as many ones as can be, no two in one row or column, and as few lines as can be with all ones in them."""
    check_ones(table)
    rows_by_column = {}
    for row in range(len(table)):
        pair_up(table, row, rows_by_column, {})
    spots = sorted([(row, column) for column, row in rows_by_column.items()])
    return (spots, lines_for(table, rows_by_column))


def pair_up(table, row, rows_by_column, tried):
    """Pair a row with a column, and lead on the row paired with that one where need be; tell whether this went."""
    for column, entry in enumerate(table[row]):
        if entry == 1 and column not in tried:
            tried[column] = True
            if column not in rows_by_column or pair_up(table, rows_by_column[column], rows_by_column, tried):
                rows_by_column[column] = row
                return True
    return False


def lines_for(table, rows_by_column):
    """Tell as many lines, rows and columns, as there are pairs, in which all ones stand.

    From a row without a pair go to each column where it has a one, on to the row paired with this
    column, and so on: the columns come to, and the rows not come to, are these lines. Each column
    come to has a pair, as else there would be a greater pairing.
    """
    many, wide = shape(table)
    alone = [row for row in range(many) if row not in list(rows_by_column.values())]
    rows = alone
    columns = []
    for _ in table:
        columns = [at for at in range(wide) if any([table[row][at] == 1 for row in rows])]
        rows = alone + [rows_by_column[at] for at in columns]
    return ([row for row in range(many) if row not in rows], columns)


def crossing(table):
    """Tell the table with a column for each one and a row for each row and column; None where there is no one."""
    check_ones(table)
    many, wide = shape(table)
    ones = [(row, column) for row in range(many) for column in range(wide) if table[row][column] == 1]
    if many + wide > MOST or len(ones) > MOST:
        raise TooMany(MOST)
    if not ones:
        return None
    across = [[1 if row == at else 0 for row, _ in ones] for at in range(many)]
    down = [[1 if column == at else 0 for _, column in ones] for at in range(wide)]
    return across + down
