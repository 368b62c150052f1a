"""Points [2], [4], [11], [12] and [13]: bad squares, and what is judged to be one."""

import unittest
from copy import deepcopy
from random import Random

from samples import (
    NETLIKE, NO_PLACES, NO_TABLES, Odd, all_tables, amid_noughts, picks, raised, ring, slow_bad_square, some_nets,
    some_stretches, some_tables, sound_tables, squares,
)
from signbook.errors import BadTable
from signbook.squares import bad_square, is_bad_square
from signbook.tables import determinant, piece, pivoted, signed_by, turned

LONG = 10 ** 39 + 7
RING = ring(3)


def small_tables():
    """Tell tables with bad squares and without."""
    yield from all_tables(2, 2, (-1, 0, 1, 2))
    yield from all_tables(3, 3, (0, 1))
    for table in some_tables(120, -1, 1, 31):
        yield [row[:4] for row in table[:4]]
    yield from (table for table in sound_tables(40, 32) if len(table) * len(table[0]) < 30)


class BadSquares(unittest.TestCase):
    def test_some(self):
        self.assertIsNone(bad_square([[0]]))
        self.assertIsNone(bad_square(NETLIKE))
        self.assertEqual(bad_square([[2]]), ([0], [0], 2))
        self.assertEqual(bad_square([[1, 1], [-1, 1]]), ([0, 1], [0, 1], 2))
        self.assertEqual(bad_square([[1, 1], [1, -1]]), ([0, 1], [0, 1], -2))
        self.assertEqual(bad_square(RING), ([0, 1, 2], [0, 1, 2], 2))
        self.assertEqual(bad_square(table=[RING[0], RING[2], RING[1]]), ([0, 1, 2], [0, 1, 2], -2))

    def test_an_entry_beyond_1(self):
        for entry in (2, -2, 3, -7, LONG, -LONG):
            for row in range(3):
                for column in range(4):
                    table = [[1, -1, 1, 1], [1, 1, 0, 1], [0, 1, 1, 1]]
                    table[row][column] = entry
                    self.assertEqual(bad_square(table), ([row], [column], entry))

    def test_of_several_the_fewest_rows_then_the_least_rows_then_the_least_columns(self):
        twos = [[1, 1], [1, -1]]
        table = amid_noughts(twos, [1, 2], [4, 5], 6, 6)
        self.assertEqual(bad_square(table), ([1, 2], [4, 5], -2))
        table[0][2], table[0][3], table[3][2], table[3][3] = 1, 1, 1, -1
        self.assertEqual(bad_square(table), ([0, 3], [2, 3], -2))
        table[0][0], table[0][1], table[3][0], table[3][1] = 1, 1, -1, 1
        self.assertEqual(bad_square(table), ([0, 3], [0, 1], 2))
        table[5][5] = 3
        self.assertEqual(bad_square(table), ([5], [5], 3))
        table[5][4] = -3
        self.assertEqual(bad_square(table), ([5], [4], -3))
        table[4][5] = 2
        self.assertEqual(bad_square(table), ([4], [5], 2))

    def test_all_small_tables(self):
        for table in small_tables():
            self.assertEqual(bad_square(table), slow_bad_square(table))

    def test_all_of_three_rows_and_columns(self):
        for table in all_tables(3, 3, (-1, 0, 1)):
            if all(entry >= 0 for entry in table[0]):
                self.assertEqual(bad_square(table), slow_bad_square(table))

    def test_tables_of_all_shapes(self):
        for low, high in ((-1, 1), (0, 1), (-2, 1), (-LONG, LONG)):
            for table in some_tables(60, low, high, 33):
                self.assertEqual(bad_square(table), slow_bad_square(table))

    def test_tables_of_few_entries_other_than_nought(self):
        chance = Random(34)
        for _ in range(40):
            rows, columns = chance.randint(3, 6), chance.randint(3, 6)
            table = [[chance.choice((0, 0, 1, 1, -1)) for _ in range(columns)] for _ in range(rows)]
            self.assertEqual(bad_square(table), slow_bad_square(table))

    def test_rings_amid_noughts(self):
        chance = Random(35)
        for size in range(3, 9):
            for _ in range(3):
                rows, columns = picks(8, size), picks(8, size)
                up, across = chance.choice(rows), chance.choice(columns)
                table = amid_noughts(ring(size), up, across)
                told = bad_square(table)
                self.assertEqual(told, (up, across, determinant(ring(size))))
                self.assertIn(told[2], (2, -2))
                table[up[0]][across[0]] = 0
                self.assertIsNone(bad_square(table))

    def test_even_rings_of_ones_alone_are_not_bad(self):
        for size in (4, 6, 8):
            square = ring(size)
            square[-1][0] = 1
            self.assertIsNone(bad_square(amid_noughts(square, list(range(size)), list(range(size)))))

    def test_great_unimodular_tables_have_none(self):
        for table in [*some_nets(12, 36), *some_stretches(12, 37), *sound_tables(60, 38)]:
            self.assertIsNone(bad_square(table))
            self.assertIsNone(bad_square(turned(table)))
        self.assertIsNone(slow_bad_square(next(some_nets(1, 36))))

    def test_one_entry_of_a_great_table_otherwise(self):
        chance = Random(39)
        for table in [*some_nets(3, 40, 6, 6), *some_stretches(3, 41, 7, 5)]:
            for _ in range(6):
                row, column = chance.randrange(len(table)), chance.randrange(len(table[0]))
                table[row][column] = 1 - table[row][column] ** 2
                self.assertEqual(bad_square(table), slow_bad_square(table))

    def test_what_is_no_table_is_refused(self):
        for thing in NO_TABLES:
            raised(BadTable, bad_square, thing)
            raised(BadTable, bad_square, table=thing)


class Judged(unittest.TestCase):
    def judged(self, table, thing, wanted):
        self.assertIs(is_bad_square(table, thing), wanted, repr(thing))
        self.assertIs(is_bad_square(thing=thing, table=table), wanted, repr(thing))

    def test_each_square_of_small_tables(self):
        seen = {True: 0, False: 0}
        for table in small_tables():
            for square in squares(table):
                wanted = square[2] not in (-1, 0, 1)
                self.judged(table, square, wanted)
                seen[wanted] += 1
        self.assertGreater(min(seen.values()), 100)

    def test_what_bad_square_tells_and_others(self):
        table = amid_noughts(RING, [1, 3, 4], [0, 2, 7])
        table[6][6] = -5
        self.judged(table, bad_square(table), True)
        self.judged(table, ([6], [6], -5), True)
        self.judged(table, ([1, 3, 4], [0, 2, 7], 2), True)
        self.judged(table, ([1, 3, 4, 6], [0, 2, 6, 7], 10), True)
        self.judged(table, ([1, 3, 4, 6], [0, 2, 6, 7], -10), False)
        self.judged(table, ([1, 3, 4], [0, 2, 6], 0), False)
        self.judged(table, ([1], [0], 1), False)

    def test_with_another_determinant(self):
        for value in (-2, -1, 0, 1, 3, LONG, None, True, "2", (2,), (2, 1), [2], Odd()):
            self.judged(RING, ([0, 1, 2], [0, 1, 2], value), False)
        self.judged([[1]], ([0], [0], True), False)
        self.judged([[0]], ([0], [0], 2), False)

    def test_of_great_determinants(self):
        table = [[LONG + row * column ** 2 if row != column else -LONG for column in range(8)] for row in range(8)]
        value = determinant(table)
        places = list(range(8))
        self.assertGreater(abs(value), LONG ** 6)
        self.judged(table, (places, places, value), True)
        for other in (value + 1, value - 1, -value, 2 * value):
            self.judged(table, (places, places, other), False)

    def test_with_another_place(self):
        table = amid_noughts(RING, [1, 3, 4], [0, 2, 7])
        for at in range(3):
            for place in (-1, 5, 8, LONG, -LONG, *NO_PLACES):
                rows, columns = [1, 3, 4], [0, 2, 7]
                rows[at] = place
                self.judged(table, (rows, [0, 2, 7], 2), False)
                columns[at] = place
                self.judged(table, ([1, 3, 4], columns, 2), False)

    def test_with_other_picks(self):
        table = amid_noughts(RING, [1, 3, 4], [0, 2, 7])
        rows, columns = [1, 3, 4], [0, 2, 7]
        self.judged(table, (rows, columns, 2), True)
        self.judged(table, (columns, rows, 2), False)
        self.judged(table, (rows, [0, 2], 2), False)
        self.judged(table, ([1, 3], columns, 2), False)
        self.judged(table, (rows, [0, 2, 6, 7], 2), False)
        self.judged(table, ([3, 1, 4], columns, -2), False)
        self.judged(table, (rows, [0, 7, 2], -2), False)
        self.judged(table, ([1, 3, 3], columns, 0), False)
        self.judged(table, ([], [], 2), False)
        for thing in (None, True, 3, "134", b"134", (1, 3, 4), {1: 1}, {1, 3, 4}, Odd()):
            self.judged(table, (thing, columns, 2), False)
            self.judged(table, (rows, thing, 2), False)

    def test_longer_shorter_and_of_another_kind(self):
        full = ([0, 1, 2], [0, 1, 2], 2)
        self.judged(RING, full, True)
        for thing in (full + (2,), full + (None,), full[:2], full[:1], (), list(full), (full,), [full], {0: full}):
            self.judged(RING, thing, False)

    def test_of_anything(self):
        for thing in (None, True, False, 0, 2, -1, LONG, "", "012", b"2", [], {}, {1}, set(), object(), Odd(), len):
            self.judged(RING, thing, False)
            self.judged([[5]], thing, False)
        for at in range(3):
            for thing in (Odd(), {}, [[]], None):
                full = [[0, 1, 2], [0, 1, 2], 2]
                full[at] = thing
                self.judged(RING, tuple(full), False)

    def test_what_is_no_table_is_refused_ahead(self):
        for table in NO_TABLES:
            for thing in (([0], [0], 2), None, Odd()):
                raised(BadTable, is_bad_square, table, thing)
                raised(BadTable, is_bad_square, thing=thing, table=table)


class KeptByBadSquares(unittest.TestCase):
    def test_a_least_one_of_more_rows_is_even(self):
        seen = 0
        for table in [*small_tables(), *some_tables(60, -1, 1, 42)]:
            told = bad_square(table)
            if told is not None and len(told[0]) > 1:
                self.assertIn(told[2], (2, -2))
                least = piece(table, told[0], told[1])
                for line in least + turned(least):
                    self.assertEqual(sum(entry != 0 for entry in line) % 2, 0)
                seen += 1
        self.assertGreater(seen, 60)

    def test_turned_and_signed_and_pivoted(self):
        for table in small_tables():
            wanted = bad_square(table) is None
            self.assertEqual(bad_square(turned(table)) is None, wanted)
            signed = signed_by(table, [0], list(range(0, len(table[0]), 2)))
            self.assertEqual(bad_square(signed) is None, wanted)
            for row, entries in enumerate(table):
                for column, entry in enumerate(entries):
                    if entry in (1, -1):
                        self.assertEqual(bad_square(pivoted(table, row, column)) is None, wanted)


class Kept(unittest.TestCase):
    def test_what_is_handed_in_stays_and_what_is_told_is_new(self):
        for table in (RING, [[1, 1], [-1, 1]], [[5, 5]] * 2):
            as_it_was = deepcopy(table)
            told = bad_square(table)
            again = deepcopy(told)
            for pick in told[:2]:
                pick.append("spoilt")
            self.assertEqual(bad_square(table), again)
            self.assertEqual(table, as_it_was)
            thing = deepcopy(again)
            self.assertTrue(is_bad_square(table, thing))
            self.assertEqual((table, thing), (as_it_was, again))

    def test_a_table_that_is_changed_and_changed_back(self):
        table = deepcopy(RING)
        thing = bad_square(table)
        table[1][1] = 0
        self.assertIsNone(bad_square(table))
        self.assertFalse(is_bad_square(table, thing))
        table[1][1] = -7
        self.assertEqual(bad_square(table), ([1], [1], -7))
        table[1][1] = 1
        self.assertEqual(bad_square(table), thing)
        self.assertTrue(is_bad_square(table, thing))


if __name__ == "__main__":
    unittest.main()
