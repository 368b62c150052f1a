"""Tables: lists of one to eight rows of whole numbers, each row with the same one to eight columns."""

from signbook.errors import BadTable, NoFit, NoPick, NoPivot, NotPlain
from signbook.fractions import fraction, is_whole, plus, times
from signbook.lists import is_fractions

MOST = 8


def is_table(thing):
    """Tell of anything whether it is a table."""
    if not isinstance(thing, list) or not 1 <= len(thing) <= MOST:
        return False
    if not all([is_row(row) for row in thing]):
        return False
    return all([len(row) == len(thing[0]) for row in thing])


def is_row(thing):
    """Tell of anything whether it may be a row of a table."""
    if not isinstance(thing, list) or not 1 <= len(thing) <= MOST:
        return False
    return all([is_whole(entry) for entry in thing])


def check_table(thing):
    """Refuse what is no table."""
    if not is_table(thing):
        raise BadTable("not a table")


def check_ones(table):
    """Refuse what is no table, then one with other entries than 0 and 1."""
    check_table(table)
    if not all([entry in (0, 1) for row in table for entry in row]):
        raise NotPlain("not a table of noughts and ones")


def check_pick(thing, many):
    """Refuse what is no pick of places below many."""
    check_places(thing, many)
    if not thing:
        raise NoPick(-1)


def is_pick(thing, many):
    """Tell of anything whether it is a pick of places below many."""
    try:
        check_pick(thing, many)
    except NoPick:
        return False
    return True


def check_places(thing, many):
    """Refuse what is neither empty nor a pick of places below many."""
    if not isinstance(thing, list):
        raise NoPick(-1)
    ahead = -1
    for at, place in enumerate(thing):
        if not is_place(place, many) or place <= ahead:
            raise NoPick(at)
        ahead = place


def is_place(thing, many):
    """Tell of anything whether it is one of so many places."""
    return is_whole(thing) and 0 <= thing < many


def is_plain(table):
    """Tell whether all entries are -1, 0 or 1."""
    check_table(table)
    return all([entry in (-1, 0, 1) for row in table for entry in row])


def shape(table):
    """Tell how many rows and how many columns a table has."""
    check_table(table)
    return (len(table), len(table[0]))


def turned(table):
    """Tell the table that has the columns as its rows."""
    check_table(table)
    return [[row[at] for row in table] for at in range(len(table[0]))]


def piece(table, rows, columns):
    """Tell the table of the entries where picks of rows and of columns meet."""
    many, wide = shape(table)
    check_pick(rows, many)
    check_pick(columns, wide)
    return [[table[row][column] for column in columns] for row in rows]


def signed_by(table, rows, columns):
    """Tell the table with the signs of picks of rows, then of columns, turned; both may be empty."""
    many, wide = shape(table)
    check_places(rows, many)
    check_places(columns, wide)
    row_signs = [-1 if at in rows else 1 for at in range(many)]
    column_signs = [-1 if at in columns else 1 for at in range(wide)]
    return [
        [row_sign * column_sign * entry for column_sign, entry in zip(column_signs, row)]
        for row_sign, row in zip(row_signs, table)
    ]


def product(one, other):
    """Tell the product of two tables, the one with as many columns as the other has rows."""
    check_table(one)
    columns = turned(other)
    if len(one[0]) != len(other):
        raise NoFit("the one has not as many columns as the other has rows")
    return [[sum([x * y for x, y in zip(row, column)]) for column in columns] for row in one]


def led(table, xs):
    """Tell the sums of the rows times a list of as many fractions as there are columns."""
    check_table(table)
    if not is_fractions(xs, len(table[0])):
        raise NoFit("not a list of as many fractions as there are columns")
    return [row_sum(row, xs) for row in table]


def row_sum(row, xs):
    """Tell the sum of a row's entries times fractions."""
    total = fraction(0)
    for entry, x in zip(row, xs):
        total = plus(total, times(fraction(entry), x))
    return total


def row_totals(table, numbers):
    """Tell the sums of the rows of what surely is a table times whole numbers."""
    return [sum([entry * number for entry, number in zip(row, numbers)]) for row in table]


def determinant(table):
    """Tell the determinant of a table with as many rows as columns."""
    many, wide = shape(table)
    if many != wide:
        raise NoFit("not as many rows as columns")
    return square_value(table)


def square_value(square):
    """Tell the determinant of what surely is a square."""
    steps, corner = cleared(square)
    return corner if steps == len(square) else 0


def rank(table):
    """Tell the greatest size of a square whose determinant is not 0."""
    check_table(table)
    steps, _ = cleared(table)
    return steps


def cleared(table):
    """Tell how many rows lead when the table is cleared step by step, and the last leading entry, signed.

    The first is the rank; where all rows of a square lead, the second is its determinant.
    """
    rows = table
    sign = corner = 1
    steps = 0
    for column in range(len(table[0])):
        found = [at for at in range(steps, len(rows)) if rows[at][column] != 0]
        if found:
            if found[0] != steps:
                sign = -sign
            lead = rows[found[0]]
            # An exchange: the row that stood in the leading one's place goes where that one was.
            others = [rows[steps] if at == found[0] else rows[at] for at in range(steps + 1, len(rows))]
            rows = rows[:steps] + [lead] + [cleared_row(row, lead, column, corner) for row in others]
            corner = lead[column]
            steps += 1
    return steps, sign * corner


def cleared_row(row, lead, column, corner):
    """Tell a row with its entry in a column cleared by the leading row."""
    # What is divided is the determinant of a square of the table times the last corner: no rest is left.
    return [(entry * lead[column] - row[column] * top) // corner for entry, top in zip(row, lead)]


def pivoted(table, row, column):
    """Tell the table pivoted at a place whose entry is 1 or -1."""
    many, wide = shape(table)
    if not is_place(row, many):
        raise NoPick(0)
    if not is_place(column, wide):
        raise NoPick(1)
    lead = table[row]
    if lead[column] not in (1, -1):
        raise NoPivot("the entry is neither 1 nor -1")
    return [
        pivoted_lead(lead, column) if at == row else pivoted_row(table[at], lead, column)
        for at in range(many)
    ]


def pivoted_lead(lead, column):
    """Tell the pivot's own row, pivoted."""
    p = lead[column]
    return [entry if at == column else p * entry for at, entry in enumerate(lead)]


def pivoted_row(row, lead, column):
    """Tell another row than the pivot's, pivoted."""
    p = lead[column]
    return [
        -p * entry if at == column else entry - p * row[column] * lead[at]
        for at, entry in enumerate(row)
    ]
