"""What several tests share: tables to try, things that are no tables, and slow sure ways to check."""

from fractions import Fraction
from itertools import combinations, permutations, product as choices
from random import Random

from signbook.tables import determinant, piece

NETLIKE = [[1, 0, -1], [0, 1, 1], [1, 1, 0]]

NO_TABLES = [
    None,
    True,
    7,
    "1 0; 0 1",
    b"10",
    {},
    {0: [1]},
    {1, 2},
    (),
    ([1],),
    object(),
    [],
    [[]],
    [[], []],
    [[1], []],
    [[1] for _ in range(9)],
    [[1] * 9],
    [[1] * 9 for _ in range(9)],
    [[1, 2], [3]],
    [[1], [2, 3]],
    [[1, 2], [3, 4], [5, 6, 7]],
    [[1, 2], (3, 4)],
    [(1, 2), (3, 4)],
    [[1, 2], None],
    [None],
    [1, 2],
    ["12", "34"],
    [[1, True]],
    [[False, 0]],
    [[1, "1"]],
    [[1, (1, 2)]],
    [[(1, 1)]],
    [[1, [1]]],
    [[None]],
    [[1], [{}]],
]


class Odd:
    """A thing that can be neither hashed nor compared."""

    __hash__ = None

    def __eq__(self, other):
        raise AssertionError("it was compared")

    __lt__ = __le__ = __gt__ = __ge__ = __eq__


NO_PLACES = [None, True, False, "0", "", b"0", (), (0,), [], [0], {}, {0}, object(), Odd()]
NO_LISTS = [None, True, 0, "", "01", b"0", (), (0,), {}, {0: 0}, {0}, object(), Odd()]
NO_WHOLES = [*NO_PLACES, (0, 1)]
NO_FRACTIONS = [
    None, True, 0, 1, "1/2", b"12", (), (1,), (2, 4), (0, 2), (1, 0), (1, -1), (1, 1, 1), (True, 1), (1, True),
    ("1", 2), [1, 2], {1: 2}, object(), Odd(), (Odd(), 1), (1, Odd()),
]


def all_tables(rows, columns, entries):
    """Tell every table of a shape over some entries."""
    for row in choices(entries, repeat=rows * columns):
        yield [list(row[at * columns:(at + 1) * columns]) for at in range(rows)]


def some_tables(many, low, high, seed, square=False):
    """Tell as many tables of all shapes, the same ones each time."""
    chance = Random(seed)
    for _ in range(many):
        rows, columns = chance.randint(1, 8), chance.randint(1, 8)
        wide = rows if square else columns
        yield [[chance.randint(low, high) for _ in range(wide)] for _ in range(rows)]


def slow_determinant(table):
    """Tell the determinant as the sum over all orders of the columns."""
    total = 0
    for order in permutations(range(len(table))):
        term = 1
        for row, column in zip(table, order):
            term *= row[column]
        falls = sum(a > b for a, b in combinations(order, 2))
        total += -term if falls % 2 else term
    return total


def picks(many, size):
    """Tell all picks of a size out of so many places."""
    return [list(pick) for pick in combinations(range(many), size)]


def squares(table, least=1):
    """Tell (rows, columns, determinant) of all squares, the smaller ones ahead."""
    rows, columns = len(table), len(table[0])
    for size in range(least, min(rows, columns) + 1):
        for up in picks(rows, size):
            for across in picks(columns, size):
                yield up, across, determinant(piece(table, up, across))


def is_sound(table):
    """Tell whether each square has the determinant -1, 0 or 1."""
    return all(value in (-1, 0, 1) for _, _, value in squares(table))


def raised(kind, call, *given, **named):
    """Tell the refusal of a call, which must be of just this class."""
    try:
        told = call(*given, **named)
    except kind as refusal:
        assert type(refusal) is kind, f"{type(refusal)} for {kind}"
        return refusal
    raise AssertionError(f"{call.__name__}{given!r} told {told!r}")


def net_table(above, arcs):
    """Tell the table of a net: a row for each place but 0, of the end to the place above it, a column for each arc."""

    def ends_to_the_top(place):
        ends = set()
        while place > 0:
            ends.add(place)
            place = above[place - 1]
        return ends

    ways = [(ends_to_the_top(one), ends_to_the_top(other)) for one, other in arcs]
    return [[int(end in up) - int(end in down) for up, down in ways] for end in range(1, len(above) + 1)]


def some_nets(many, seed, rows=8, columns=8):
    """Tell tables of nets, all of which are unimodular, the same ones each time."""
    chance = Random(seed)
    for _ in range(many):
        above = [chance.randrange(place) for place in range(1, rows + 1)]
        yield net_table(above, [(chance.randint(0, rows), chance.randint(0, rows)) for _ in range(columns)])


def some_stretches(many, seed, rows=8, columns=8):
    """Tell tables with the ones of each row side by side, all of which are unimodular, the same ones each time."""
    chance = Random(seed)
    for _ in range(many):
        ends = [sorted((chance.randint(0, columns), chance.randint(0, columns))) for _ in range(rows)]
        yield [[int(low <= column < high) for column in range(columns)] for low, high in ends]


def sound_tables(many, seed):
    """Tell unimodular tables of many shapes: nets and stretches, turned and signed, and one that is neither."""
    chance = Random(seed)
    yield [[1, 0, 0, 1, -1], [-1, 1, 0, 0, 1], [1, -1, 1, 0, 0], [0, 1, -1, 1, 0], [0, 0, 1, -1, 1]]
    for at in range(many):
        rows, columns = chance.randint(1, 8), chance.randint(1, 8)
        some = some_stretches if at % 3 == 0 else some_nets
        table = next(some(1, chance.random(), rows, columns))
        turning = [at for at in range(columns) if chance.random() < 0.5]
        table = [[-entry if at in turning else entry for at, entry in enumerate(row)] for row in table]
        yield [list(row) for row in zip(*table)] if at % 2 else table


def ring(size):
    """Tell the bad square of a ring of ones of so many rows: two entries in each row and in each column."""
    table = [[int(column in (row, (row + 1) % size)) for column in range(size)] for row in range(size)]
    # The ring of ones alone has the determinant 0 where its rows are even in number.
    table[-1][0] = 1 if size % 2 else -1
    return table


def amid_noughts(square, rows, columns, many=8, wide=8):
    """Tell a table of noughts with a square put at picks of rows and of columns."""
    table = [[0] * wide for _ in range(many)]
    for row, entries in zip(rows, square):
        for column, entry in zip(columns, entries):
            table[row][column] = entry
    return table


def slow_bad_square(table):
    """Tell the first bad one of all squares, or None."""
    return next((square for square in squares(table) if square[2] not in (-1, 0, 1)), None)


def some_wholes(many, chance, most):
    """Tell as many whole numbers up to a size."""
    return [chance.randint(-most, most) for _ in range(many)]


def pairs(values):
    """Tell fractions, as the standard library has them, as tuples."""
    return [(value.numerator, value.denominator) for value in values]


def some_fractions(many, seed):
    """Tell as many fractions, the same ones each time."""
    chance = Random(seed)
    return pairs([Fraction(chance.randint(-9, 9), chance.randint(1, 6)) for _ in range(many)])
