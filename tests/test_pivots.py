"""Points [2], [4] and [9]: pivoted tables."""

import unittest
from copy import deepcopy

from samples import NO_PLACES, NO_TABLES, all_tables, raised, some_tables
from signbook.errors import BadTable, NoPick, NoPivot
from signbook.tables import pivoted

LONG = 10 ** 39 + 7


def ones(table):
    """Tell the places of entries 1 and -1."""
    for row, entries in enumerate(table):
        for column, entry in enumerate(entries):
            if entry in (1, -1):
                yield row, column


class Pivoted(unittest.TestCase):
    def test_at_1(self):
        self.assertEqual(pivoted([[1, 2, 3], [4, 5, 6]], 0, 0), [[1, 2, 3], [-4, -3, -6]])
        self.assertEqual(pivoted([[5, 7], [2, 1]], 1, 1), [[-9, -7], [2, 1]])

    def test_at_minus_1(self):
        self.assertEqual(pivoted([[-1, 2, 3], [4, 5, 6]], 0, 0), [[-1, -2, -3], [4, 13, 18]])
        self.assertEqual(pivoted([[4, 5], [-1, 0]], 1, 0), [[4, 5], [-1, 0]])

    def test_of_one_row_or_one_column(self):
        self.assertEqual(pivoted([[1]], 0, 0), [[1]])
        self.assertEqual(pivoted([[-1]], 0, 0), [[-1]])
        self.assertEqual(pivoted([[7, -1, 2]], 0, 1), [[-7, -1, -2]])
        self.assertEqual(pivoted([[7], [-1], [2]], 1, 0), [[7], [-1], [2]])
        self.assertEqual(pivoted([[7], [1], [2]], 1, 0), [[-7], [1], [-2]])

    def test_by_name(self):
        table = [[0, 1], [3, 4]]
        self.assertEqual(pivoted(column=1, row=0, table=table), pivoted(table, 0, 1))
        self.assertEqual(pivoted(column=1, row=0, table=table), [[0, 1], [3, -4]])

    def test_of_long_entries(self):
        self.assertEqual(pivoted([[1, LONG], [LONG, 0]], 0, 0), [[1, LONG], [-LONG, -LONG * LONG]])

    def test_entry_by_entry(self):
        for table in some_tables(40, -2, 2, 14):
            for row, column in ones(table):
                p = table[row][column]
                told = pivoted(table, row, column)
                self.assertEqual((len(told), len(told[0])), (len(table), len(table[0])))
                for i, entries in enumerate(table):
                    for j, entry in enumerate(entries):
                        wanted = entry - p * table[row][j] * table[i][column]
                        if i == row:
                            wanted = entry if j == column else p * entry
                        elif j == column:
                            wanted = -p * entry
                        self.assertEqual(told[i][j], wanted)

    def test_twice_it_is_the_table_again(self):
        for table in [*all_tables(2, 3, (-1, 0, 1)), *some_tables(40, -3, 3, 15)]:
            for row, column in ones(table):
                self.assertEqual(pivoted(pivoted(table, row, column), row, column), table)


class Refused(unittest.TestCase):
    table = [[1, 0, 2], [-2, 1, LONG]]

    def refused(self, row, column, at):
        self.assertEqual(raised(NoPick, pivoted, self.table, row, column).at, at)
        self.assertEqual(raised(NoPick, pivoted, column=column, row=row, table=self.table).at, at)

    def test_what_is_no_place(self):
        for thing in [*NO_PLACES, -1, LONG, -LONG]:
            self.refused(thing, 0, 0)
            self.refused(0, thing, 1)
            self.refused(thing, thing, 0)

    def test_rows_and_columns_have_places_of_their_own(self):
        self.refused(2, 0, 0)
        self.refused(2, 3, 0)
        self.refused(0, 3, 1)
        raised(NoPivot, pivoted, self.table, 0, 2)

    def test_a_wrong_place_is_refused_ahead_of_the_entry(self):
        self.refused(0, -2, 1)
        self.refused(-1, 1, 0)

    def test_another_entry(self):
        for row, column in ((0, 1), (0, 2), (1, 0), (1, 2)):
            raised(NoPivot, pivoted, self.table, row, column)
        for entry in (0, 2, -2, 3, LONG, -LONG):
            raised(NoPivot, pivoted, [[entry]], 0, 0)

    def test_what_is_no_table(self):
        for thing in NO_TABLES:
            raised(BadTable, pivoted, thing, 0, 0)
            raised(BadTable, pivoted, thing, -1, None)
            raised(BadTable, pivoted, column=9, row=9, table=thing)


class Kept(unittest.TestCase):
    def test_what_is_handed_in_stays_and_what_is_told_is_new(self):
        row = [1, -1]
        for table in ([[1, 2], [0, 1]], [row, row]):
            as_it_was = deepcopy(table)
            first = pivoted(table, 0, 0)
            again = deepcopy(first)
            for entries in first:
                entries[0] = 99
            first.clear()
            self.assertEqual(table, as_it_was)
            self.assertEqual(pivoted(table, 0, 0), again)


if __name__ == "__main__":
    unittest.main()
