"""Tasks: the most that a table's columns bring within the bounds of its rows, and papers of it."""

from itertools import combinations
from math import lcm

from signbook.errors import TooMany
from signbook.fractions import ceiling_of, floor_of, fraction, is_fraction, minus, under
from signbook.lists import check_numbers, is_fractions
from signbook.squares import bad_square
from signbook.tableau import Tableau
from signbook.tables import check_table, led, piece, row_sum, shape, square_value, turned

MOST_COLUMNS = 4
MOST_ROWS = 6


def check_bounds(table, bounds):
    """Refuse what is no table, then what are no bounds of it."""
    check_table(table)
    check_numbers(bounds, len(table), "bounds")


def check_task(table, bounds, gains):
    """Refuse what is no task."""
    check_bounds(table, bounds)
    check_numbers(gains, len(table[0]), "gains")


def within(table, bounds, xs):
    """Tell of anything whether it is a list of fractions, none below nought, within the bounds."""
    check_bounds(table, bounds)
    return is_within(table, bounds, xs)


def is_within(table, bounds, xs):
    """Tell of anything whether it is within what surely are a table's bounds."""
    return is_amounts(xs, len(table[0])) and reaches(bounds, led(table, xs))


def is_amounts(thing, many):
    """Tell of anything whether it is a list of so many fractions, none below nought."""
    return is_fractions(thing, many) and all([top >= 0 for top, _ in thing])


def reaches(numbers, values):
    """Tell whether each of the whole numbers is at least the fraction at its place."""
    return all([not under(fraction(number), value) for number, value in zip(numbers, values)])


def best(table, bounds, gains):
    """Tell ("best", value, x, prices), ("open", x, way) or ("none", prices) of a task."""
    check_task(table, bounds, gains)
    tableau = Tableau(table, bounds, gains)
    row = tableau.settle()
    if row is not None:
        return ("none", tableau.prices(row))
    column = tableau.climb()
    if column is not None:
        return ("open", tableau.xs(), tableau.way(column))
    # The worth's row, behind those of the table, has the prices.
    return ("best", tableau.value(), tableau.xs(), tableau.prices(len(table)))


def is_answer(table, bounds, gains, answer):
    """Tell of anything whether it is an answer, as best tells one, of the task."""
    check_task(table, bounds, gains)
    if not isinstance(answer, tuple) or not answer or not isinstance(answer[0], str):
        return False
    word = answer[0]
    if word == "best" and len(answer) == 4:
        return is_best(table, bounds, gains, answer)
    if word == "open" and len(answer) == 3:
        return is_open(table, bounds, gains, answer)
    if word == "none" and len(answer) == 2:
        return is_none(table, bounds, answer)
    return False


def is_best(table, bounds, gains, answer):
    """Tell whether a value, an x and prices show one another to be the best."""
    _, value, x, prices = answer
    if not is_fraction(value) or not is_within(table, bounds, x) or not is_amounts(prices, len(table)):
        return False
    if not covers(table, prices, gains):
        return False
    return row_sum(gains, x) == value and row_sum(bounds, prices) == value


def is_open(table, bounds, gains, answer):
    """Tell whether a way leads from an x within the bounds to worths without an end."""
    _, x, way = answer
    noughts = [0 for _ in bounds]
    # A way that no bound stops keeps within bounds that are all nought.
    if not is_within(table, bounds, x) or not is_within(table, noughts, way):
        return False
    return under(fraction(0), row_sum(gains, way))


def is_none(table, bounds, answer):
    """Tell whether prices show that nothing is within the bounds."""
    _, prices = answer
    if not is_amounts(prices, len(table)) or not covers(table, prices, [0 for _ in table[0]]):
        return False
    return under(row_sum(bounds, prices), fraction(0))


def covers(table, prices, numbers):
    """Tell whether in each column the sum of the entries times the prices is at least its number."""
    totals = led(turned(table), prices)
    return all([not under(total, fraction(number)) for total, number in zip(totals, numbers)])


def priced(table, bounds, gains):
    """Tell the task (table, bounds, gains) that asks for a task's prices."""
    check_task(table, bounds, gains)
    return ([opposites(row) for row in turned(table)], opposites(gains), opposites(bounds))


def opposites(numbers):
    """Tell the numbers, each with the other sign."""
    return [-number for number in numbers]


def corners(table, bounds):
    """Tell all corners of what is within the bounds, sorted."""
    check_bounds(table, bounds)
    many, wide = shape(table)
    if wide > MOST_COLUMNS:
        raise TooMany(MOST_COLUMNS)
    if many > MOST_ROWS:
        raise TooMany(MOST_ROWS)
    # Several sets of bounds may meet at one corner.
    found = {tuple(x): x for x in meetings(table, bounds) if is_within(table, bounds, x)}
    return by_size(list(found.values()))


def by_size(lists):
    """Tell the lists of fractions, sorted by the numbers that these stand for."""
    common = 1
    for values in lists:
        for _, bottom in values:
            common = lcm(common, bottom)
    # Over one common bottom the tops alone tell which is less.
    return sorted(lists, key=lambda xs: [x[0] * (common // x[1]) for x in xs])


def meetings(table, bounds):
    """Tell the places where as many bounds as there are columns, those at nought among them, meet in one."""
    many, wide = shape(table)
    told = [[fraction(0) for _ in range(wide)]]
    for size in range(1, min(many, wide) + 1):
        for rows in combinations(range(many), size):
            for columns in combinations(range(wide), size):
                square = [[table[row][column] for column in columns] for row in rows]
                values = solved(square, [bounds[row] for row in rows])
                if values is not None:
                    told.append(spread_out(values, columns, wide))
    return told


def solved(square, totals):
    """Tell the one list that a square leads to these whole numbers; None where its determinant is 0."""
    bottom = square_value(square)
    if bottom == 0:
        return None
    return [fraction(square_value(replaced(square, at, totals)), bottom) for at in range(len(square))]


def replaced(square, column, totals):
    """Tell the square with other entries in a column."""
    return [row[:column] + [total] + row[column + 1:] for row, total in zip(square, totals)]


def spread_out(values, columns, wide):
    """Tell the list with the values at the columns, in order, and nought elsewhere."""
    told = [fraction(0) for _ in range(wide)]
    for value, column in zip(values, columns):
        told[column] = value
    return told


def unwhole(table):
    """Tell (bounds, gains, x), whole bounds and gains whose only best x isn't whole; None of a unimodular table."""
    found = bad_square(table)
    if found is None:
        return None
    rows, columns, _ = found
    wide = len(table[0])
    rests = first_rests(piece(table, rows, columns))
    x = spread_out(rests, columns, wide)
    bounds = [ceiling_of(total) for total in led(table, x)]
    gains = [
        sum([table[row][column] for row in rows]) - (0 if column in columns else 1)
        for column in range(wide)
    ]
    return (bounds, gains, x)


def first_rests(square):
    """Tell what is left above the floors in the first list, not whole, that a bad square leads to a unit's column."""
    places = range(len(square))
    lists = [solved(square, [1 if row == at else 0 for row in places]) for at in places]
    # The determinant of a bad square has no whole reciprocal, so there is such a list.
    broken = [values for values in lists if any([bottom != 1 for _, bottom in values])]
    return [minus(value, fraction(floor_of(value))) for value in broken[0]]
