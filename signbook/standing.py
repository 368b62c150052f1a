"""Orders of a table's columns in which the ones of each row stand together."""

from itertools import permutations

from signbook.errors import TooMany
from signbook.lists import is_long
from signbook.tables import check_ones, is_place

MOST_COLUMNS = 7


def together(table):
    """Tell the least order of the columns in which each row's ones stand together, or None."""
    check_ones(table)
    wide = len(table[0])
    if wide > MOST_COLUMNS:
        raise TooMany(MOST_COLUMNS)
    for order in permutations(range(wide)):
        if all_stand(table, order):
            return list(order)
    return None


def is_together(table, order):
    """Tell of anything whether it is an order of the columns in which each row's ones stand together."""
    check_ones(table)
    wide = len(table[0])
    if not is_long(order, wide) or not all([is_place(column, wide) for column in order]):
        return False
    return sorted(order) == list(range(wide)) and all_stand(table, order)


def all_stand(table, order):
    """Tell whether the ones of each row stand together in what surely is an order."""
    for row in table:
        ones = [at for at, column in enumerate(order) if row[column] == 1]
        if ones and ones[-1] - ones[0] >= len(ones):
            return False
    return True
