"""Signs of picks of rows, and the book of them that shows a table to be unimodular.

By Ghouila and Houri all squares of a table have a determinant -1, 0 or 1 just where each pick of
its rows has right signs, so here nothing is asked of the squares.
"""

from itertools import combinations

from signbook.errors import NotWhole
from signbook.fractions import is_whole
from signbook.lists import is_long
from signbook.tables import check_pick, check_table, is_pick


def signs_for(table, rows):
    """Tell the first right signs of a pick of rows, 1 standing ahead of -1, or None."""
    check_table(table)
    check_pick(rows, len(table))
    return first_signs(table, rows)


def first_signs(table, rows):
    """Tell the first right signs of what surely is a pick of rows, or None."""
    # With any right signs their opposites are right, too, so the first ones begin with 1.
    ways = [([1], table[rows[0]])]
    for row in rows[1:]:
        ways = [
            (signs + [sign], [total + sign * entry for total, entry in zip(totals, table[row])])
            for signs, totals in ways
            for sign in (1, -1)
        ]
    for signs, totals in ways:
        if are_small(totals):
            return signs
    return None


def are_small(totals):
    """Tell whether all of the sums are -1, 0 or 1."""
    return all([total in (-1, 0, 1) for total in totals])


def book(table):
    """Tell each pick of rows with its first right signs; refused where some pick has none."""
    check_table(table)
    told = []
    for rows in picks(len(table)):
        signs = first_signs(table, rows)
        if signs is None:
            raise NotWhole(rows)
        told.append((rows, signs))
    return told


def picks(many):
    """Tell all picks of so many places: those of fewer ahead, of as many the least ahead."""
    return [list(pick) for size in range(1, many + 1) for pick in combinations(range(many), size)]


def is_book(table, thing):
    """Tell of anything whether it has each pick of the table's rows once, with right signs."""
    check_table(table)
    if not is_long(thing, len(picks(len(table)))):
        return False
    if not all([is_page(table, page) for page in thing]):
        return False
    # As many picks as there are, no two of them alike, are all of them.
    return len({tuple(rows) for rows, _ in thing}) == len(thing)


def is_page(table, thing):
    """Tell of anything whether it is a tuple of a pick of the table's rows and right signs of it."""
    if not isinstance(thing, tuple) or len(thing) != 2:
        return False
    rows, signs = thing
    if not is_pick(rows, len(table)) or not is_long(signs, len(rows)):
        return False
    if not all([is_whole(sign) and sign in (1, -1) for sign in signs]):
        return False
    return are_small([
        sum([sign * table[row][column] for row, sign in zip(rows, signs)])
        for column in range(len(table[0]))
    ])


def is_unimodular(table):
    """Tell whether every square of the table has a determinant -1, 0 or 1."""
    check_table(table)
    for rows in picks(len(table)):
        if first_signs(table, rows) is None:
            return False
    return True
