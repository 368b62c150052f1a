"""Tables of noughts and ones: the signs that make one unimodular, or a piece by twos that bars them."""

from itertools import combinations

from signbook.errors import NoPick, TooMany
from signbook.nets import joined
from signbook.signs import is_unimodular
from signbook.tables import check_ones, check_places, is_pick, piece, shape, turned

MOST_LINES = 5
SIZES = {"seven": (3, 3, 3, 3, 3, 3, 3, 4, 4, 4, 4, 4, 4, 4, 7), "turned": (4, 4, 4, 4, 4, 4, 4)}


def signed(table):
    """Tell ("signed", signs), or a piece by twos (kind, taken, kept) where no signs make the table unimodular."""
    check_lines(table)
    signs = forced_signs(table)
    told = [[signs.get((row, column), 0) for column in range(len(table[0]))] for row in range(len(table))]
    # No other signs, with these where ones join, could be right, so none are if these are not.
    return ("signed", told) if is_unimodular(told) else found_piece(table)


def check_lines(table):
    """Refuse what is no table of noughts and ones, then one of too many rows or columns."""
    check_ones(table)
    if max(shape(table)) > MOST_LINES:
        raise TooMany(MOST_LINES)


def forced_signs(table):
    """Tell, by its row and column, the only sign that each one can have, if the ones that join have 1.

    A ring of ones has one sign forced by the others: its square is bad unless its signs come to a
    multiple of 4. Of all ones without a sign, take one between whose row and column the way by
    signed ones is the shortest: with it this way makes a ring, all others of which are signed. So
    as long as a one has no sign some ring forces one.
    """
    signs = {one: 1 for one in joining(table)}
    many = sum([sum(row) for row in table])
    found = rings(table)
    while len(signs) < many:
        for ones in found:
            bare = [one for one in ones if one not in signs]
            if len(bare) == 1:
                total = sum([signs[one] for one in ones if one != bare[0]])
                signs[bare[0]] = -1 if total % 4 == 1 else 1
    return signs


def joining(table):
    """Tell the ones that join, by their rows and columns."""
    many, wide = shape(table)
    groups = list(range(many + wide))
    told = []
    for row in range(many):
        for column in range(wide):
            if table[row][column] == 1 and groups[row] != groups[many + column]:
                groups = joined(groups, row, many + column)
                told.append((row, column))
    return told


def rings(table):
    """Tell the ones of each square that has just two in each of its rows and columns."""
    many, wide = shape(table)
    told = []
    for size in range(2, min(many, wide) + 1):
        for rows in combinations(range(many), size):
            for columns in combinations(range(wide), size):
                square = piece(table, list(rows), list(columns))
                if all([sum(line) == 2 for line in square + turned(square)]):
                    told.append([(row, column) for row in rows for column in columns if table[row][column] == 1])
    return told


def found_piece(table):
    """Tell the first piece by twos of a table that no signs make unimodular."""
    units = columns_by_twos(table)
    for kept in combinations(range(len(units)), 7):
        spare = [at for at in range(len(units)) if at not in kept]
        for size in range(len(spare) + 1):
            for taken in combinations(spare, size):
                kind = kind_of(units, taken, kept)
                if kind is not None:
                    return (kind, list(taken), list(kept))
    return None


def columns_by_twos(table):
    """Tell each of the unit table's columns, then each of the table's, as a number with a bit for each row."""
    bits = [1 << at for at in range(len(table))]
    return bits + [sum([bit * entry for bit, entry in zip(bits, column)]) for column in turned(table)]


def kind_of(units, taken, kept):
    """Tell the kind of piece that taken and seven kept columns make, or None."""
    free = {total: True for total, _ in all_sums(units, taken)}
    tied = sorted([size for total, size in all_sums(units, kept) if size > 0 and total in free])
    for kind in SIZES:
        if SIZES[kind] == tuple(tied):
            return kind
    return None


def all_sums(units, places):
    """Tell (sum by twos, size) of all sets of the columns at these places, the empty one ahead."""
    told = [(0, 0)]
    for at in places:
        told = told + [(total ^ units[at], size + 1) for total, size in told]
    return told


def is_piece(table, thing):
    """Tell of anything whether it is a piece by twos of the table."""
    check_lines(table)
    if not isinstance(thing, tuple) or len(thing) != 3:
        return False
    kind, taken, kept = thing
    units = columns_by_twos(table)
    if not isinstance(kind, str) or not are_places(taken, len(units)) or not is_pick(kept, len(units)):
        return False
    if len(kept) != 7 or any([at in taken for at in kept]):
        return False
    return kind == kind_of(units, taken, kept)


def are_places(thing, many):
    """Tell of anything whether it is empty or a pick of places below many."""
    try:
        check_places(thing, many)
    except NoPick:
        return False
    return True
