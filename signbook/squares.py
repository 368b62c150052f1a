"""Squares of a table, (rows, columns, determinant), and the bad ones: those of no determinant -1, 0, 1."""

from itertools import combinations

from signbook.fractions import is_whole
from signbook.tables import determinant, is_pick, piece, shape


def bad_square(table):
    """Tell the bad square of the fewest rows, then of the least rows, then of the least columns, or None."""
    many, wide = shape(table)
    # The determinants of all squares of one size, by their rows and columns: those of the next
    # size are made of them. The empty square has the determinant 1.
    known = {((), ()): 1}
    for size in range(1, min(many, wide) + 1):
        grown = {}
        for rows in combinations(range(many), size):
            for columns in combinations(range(wide), size):
                value = unfolded(table, rows, columns, known)
                if is_bad(value):
                    return (list(rows), list(columns), value)
                grown[rows, columns] = value
        known = grown
    return None


def is_bad(value):
    """Tell whether a square of this determinant is bad."""
    return value not in (-1, 0, 1)


def unfolded(table, rows, columns, known):
    """Tell a square's determinant by its last row and the known ones of the squares without that row."""
    ahead = rows[:-1]
    last = table[rows[-1]]
    total = 0
    for at, column in enumerate(columns):
        entry = last[column]
        if entry != 0:
            part = entry * known[ahead, columns[:at] + columns[at + 1:]]
            # The sign of the last row's last place is 1, and they take turns.
            total += part if (len(columns) - at) % 2 == 1 else -part
    return total


def is_bad_square(table, thing):
    """Tell of anything whether it is a bad square of the table."""
    many, wide = shape(table)
    if not isinstance(thing, tuple) or len(thing) != 3:
        return False
    rows, columns, value = thing
    if not is_pick(rows, many) or not is_pick(columns, wide) or len(rows) != len(columns):
        return False
    if not is_whole(value) or not is_bad(value):
        return False
    return determinant(piece(table, rows, columns)) == value
