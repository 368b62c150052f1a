"""Point [13], as far as tables go: bad squares, found by hand, and what keeps them."""

import unittest

from samples import all_tables, is_sound, picks, some_tables, squares
from signbook.tables import is_plain, piece, pivoted, signed_by, turned


def small_tables():
    """Tell tables with bad squares and without."""
    yield from all_tables(2, 2, (-1, 0, 1, 2))
    yield from all_tables(3, 3, (0, 1))
    for table in some_tables(60, -1, 1, 16):
        yield [row[:4] for row in table[:4]]
    yield [[1, -1, 0, 0], [0, 1, -1, 0], [0, 0, 1, -1], [-1, 0, 0, 1]]


class Kept(unittest.TestCase):
    def test_there_are_tables_of_both_kinds(self):
        told = [is_sound(table) for table in small_tables()]
        self.assertGreater(told.count(True), 50)
        self.assertGreater(told.count(False), 50)

    def test_an_entry_that_is_not_plain_is_a_bad_square(self):
        for table in small_tables():
            bad = [value for up, _, value in squares(table) if len(up) == 1 and value not in (-1, 0, 1)]
            self.assertEqual(is_plain(table), not bad)

    def test_a_least_bad_square_is_even(self):
        seen = 0
        for table in small_tables():
            bad = [square for square in squares(table) if square[2] not in (-1, 0, 1)]
            if bad and len(bad[0][0]) > 1:
                rows, columns, value = bad[0]
                least = piece(table, rows, columns)
                self.assertIn(value, (2, -2))
                for line in least + turned(least):
                    self.assertEqual(sum(entry != 0 for entry in line) % 2, 0)
                seen += 1
        self.assertGreater(seen, 30)

    def test_the_turned_table(self):
        for table in small_tables():
            self.assertEqual(is_sound(turned(table)), is_sound(table))

    def test_a_table_signed_otherwise(self):
        for table in small_tables():
            rows = picks(len(table), 1)[-1]
            columns = list(range(0, len(table[0]), 2))
            self.assertEqual(is_sound(signed_by(table, rows, columns)), is_sound(table))

    def test_a_pivoted_table(self):
        for table in small_tables():
            wanted = is_sound(table)
            for row, entries in enumerate(table):
                for column, entry in enumerate(entries):
                    if entry in (1, -1):
                        self.assertEqual(is_sound(pivoted(table, row, column)), wanted)


if __name__ == "__main__":
    unittest.main()
