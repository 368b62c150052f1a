"""What several tests share: tables to try, things that are no tables, and slow sure ways to check."""

from itertools import combinations, permutations, product as choices
from random import Random

from signbook.tables import determinant, piece

NETLIKE = [[1, 0, -1], [0, 1, 1], [1, 1, 0]]

NO_TABLES = [
    None,
    True,
    7,
    "1 0; 0 1",
    b"10",
    {},
    {0: [1]},
    {1, 2},
    (),
    ([1],),
    object(),
    [],
    [[]],
    [[], []],
    [[1], []],
    [[1] for _ in range(9)],
    [[1] * 9],
    [[1] * 9 for _ in range(9)],
    [[1, 2], [3]],
    [[1], [2, 3]],
    [[1, 2], [3, 4], [5, 6, 7]],
    [[1, 2], (3, 4)],
    [(1, 2), (3, 4)],
    [[1, 2], None],
    [None],
    [1, 2],
    ["12", "34"],
    [[1, True]],
    [[False, 0]],
    [[1, "1"]],
    [[1, (1, 2)]],
    [[(1, 1)]],
    [[1, [1]]],
    [[None]],
    [[1], [{}]],
]


class Odd:
    """A thing that can be neither hashed nor compared."""

    __hash__ = None

    def __eq__(self, other):
        raise AssertionError("it was compared")

    __lt__ = __le__ = __gt__ = __ge__ = __eq__


NO_PLACES = [None, True, False, "0", "", b"0", (), (0,), [], [0], {}, {0}, object(), Odd()]


def all_tables(rows, columns, entries):
    """Tell every table of a shape over some entries."""
    for row in choices(entries, repeat=rows * columns):
        yield [list(row[at * columns:(at + 1) * columns]) for at in range(rows)]


def some_tables(many, low, high, seed, square=False):
    """Tell as many tables of all shapes, the same ones each time."""
    chance = Random(seed)
    for _ in range(many):
        rows, columns = chance.randint(1, 8), chance.randint(1, 8)
        wide = rows if square else columns
        yield [[chance.randint(low, high) for _ in range(wide)] for _ in range(rows)]


def slow_determinant(table):
    """Tell the determinant as the sum over all orders of the columns."""
    total = 0
    for order in permutations(range(len(table))):
        term = 1
        for row, column in zip(table, order):
            term *= row[column]
        falls = sum(a > b for a, b in combinations(order, 2))
        total += -term if falls % 2 else term
    return total


def picks(many, size):
    """Tell all picks of a size out of so many places."""
    return [list(pick) for pick in combinations(range(many), size)]


def squares(table, least=1):
    """Tell (rows, columns, determinant) of all squares, the smaller ones ahead."""
    rows, columns = len(table), len(table[0])
    for size in range(least, min(rows, columns) + 1):
        for up in picks(rows, size):
            for across in picks(columns, size):
                yield up, across, determinant(piece(table, up, across))


def is_sound(table):
    """Tell whether each square has the determinant -1, 0 or 1."""
    return all(value in (-1, 0, 1) for _, _, value in squares(table))


def raised(kind, call, *given, **named):
    """Tell the refusal of a call, which must be of just this class."""
    try:
        told = call(*given, **named)
    except kind as refusal:
        assert type(refusal) is kind, f"{type(refusal)} for {kind}"
        return refusal
    raise AssertionError(f"{call.__name__}{given!r} told {told!r}")
