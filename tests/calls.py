"""All functions of the program that take a table, with right arguments to ask them with."""

from signbook import (
    nets, packing, parting, programs, rounding, seven, signs, squares, standing, sums, tables, texts,
)

RING = [[1, 1, 0], [0, 1, 1], [1, 0, 1]]
SOUND = [[1, 1, 0], [0, 1, 1]]
FIRST = [[7, 5, 5], [8, 0, 1]]
SECOND = [[1, 0, 9], [4, 4, 3]]
POINTS = [[1, 1, 0, 1], [1, 0, 1, 1], [0, 1, 1, 1]]
HALVES = [(1, 2), (1, 2), (1, 2)]
PRICES = ("best", (3, 2), HALVES, HALVES)

# Each function with arguments, and with those that are handed in by their names alone.
CALLS = [
    (tables.is_plain, (RING,), {}),
    (tables.shape, (RING,), {}),
    (tables.turned, (RING,), {}),
    (tables.piece, (RING, [0, 2], [1]), {}),
    (tables.signed_by, (RING, [0, 2], []), {}),
    (tables.product, (SOUND, RING), {}),
    (tables.led, (RING, HALVES), {}),
    (tables.determinant, (RING,), {}),
    (tables.rank, (RING,), {}),
    (tables.pivoted, (RING, 1, 2), {}),
    (squares.bad_square, (RING,), {}),
    (squares.bad_square, (SOUND,), {}),
    (squares.is_bad_square, (RING, ([0, 1, 2], [0, 1, 2], 2)), {}),
    (signs.signs_for, (RING, [0, 1]), {}),
    (signs.signs_for, (RING, [0, 1, 2]), {}),
    (signs.book, (SOUND,), {}),
    (signs.is_book, (SOUND, [([1], [1]), ([0], [-1]), ([0, 1], [-1, 1])]), {}),
    (signs.is_unimodular, (RING,), {}),
    (programs.within, (RING, [1, 1, 1], HALVES), {}),
    (programs.is_answer, (RING, [1, 1, 1], [1, 1, 1], PRICES), {}),
    (programs.best, (RING, [1, 1, 1], [1, 1, 1]), {}),
    (programs.best, (RING, [1, 1, 1], [0, 0, 0]), {}),
    (programs.best, ([[0, 1], [0, 1]], [1, 1], [1, 0]), {}),
    (programs.best, ([[0, 1], [0, 1]], [-1, -1], [1, 0]), {}),
    (programs.priced, (RING, [1, 1, 1], [2, 2, 2]), {}),
    (programs.corners, (RING, [1, 1, 1]), {}),
    (programs.unwhole, (RING,), {}),
    (programs.unwhole, (SOUND,), {}),
    (rounding.rounded, (SOUND, HALVES), {}),
    (rounding.unrounded, (RING,), {}),
    (parting.parted, (SOUND, [2, 2], [1, 2, 1]), {"many": 2}),
    (parting.parted, (SOUND, [0, 0], [0, 0, 0]), {"many": 4}),
    (parting.spread, (RING,), {}),
    (parting.halved, (SOUND, [2, 4, 6]), {}),
    (parting.halved, (SOUND, [1, 3, 5]), {}),
    (nets.as_net, (SOUND,), {}),
    (nets.as_net, (RING,), {}),
    (nets.is_net, ([[1, 0]], ("net", [(0, 1)], [(0, 1), (1, 1)])), {}),
    (standing.together, (SOUND,), {}),
    (standing.is_together, (SOUND, [0, 1, 2]), {}),
    (seven.signed, (RING,), {}),
    (seven.signed, (POINTS,), {}),
    (seven.is_piece, (POINTS, ("seven", [], [0, 1, 2, 3, 4, 5, 6])), {}),
    (sums.beside, (SOUND, RING), {}),
    (sums.two_sum, (SOUND, RING), {}),
    (sums.three_sum, (FIRST, SECOND), {}),
    (sums.parts, (SOUND,), {}),
    (packing.packed, (RING,), {}),
    (packing.packed, ([[0]],), {}),
    (packing.bought, (RING, [1, 2, 3]), {}),
    (packing.paired, (RING,), {}),
    (packing.crossing, (SOUND,), {}),
    (texts.show_table, (RING,), {}),
]

# The functions that take no table.
OTHERS = [
    (nets.net_table, ([(0, 1), (1, 2)], [(0, 2), (1, 1), (2, 0)]), {}),
    (texts.show_numbers, ([1, -2],), {}),
    (texts.show_fractions, (HALVES,), {}),
    (texts.read_numbers, ("1 2",), {}),
    (texts.read_fractions, ("1/2 3",), {}),
    (texts.read_table, ("1 2; 3 4",), {}),
]

TABLES = ("table", "one", "other")
