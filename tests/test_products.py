"""Points [2], [4] and [7]: products, and lists of fractions led by a table."""

import unittest
from copy import deepcopy
from fractions import Fraction

from samples import NO_FRACTIONS, NO_TABLES, Odd, raised, some_fractions, some_tables
from signbook.errors import BadTable, NoFit
from signbook.fractions import is_fraction
from signbook.tables import led, product, shape, turned

LONG = 10 ** 39 + 7


class Products(unittest.TestCase):
    def test_rows_times_columns(self):
        self.assertEqual(product([[1, 2], [3, 4]], [[5, 6], [7, 8]]), [[19, 22], [43, 50]])
        self.assertEqual(product([[1, -1, 2]], [[3], [4], [5]]), [[9]])
        self.assertEqual(product([[3], [4]], [[1, 0, -1]]), [[3, 0, -3], [4, 0, -4]])
        self.assertEqual(product(other=[[1], [1]], one=[[LONG, -1]]), [[LONG - 1]])

    def test_entry_by_entry(self):
        tables = list(some_tables(40, -4, 4, 3))
        done = 0
        for one in tables:
            for other in tables:
                if len(one[0]) == len(other):
                    told = product(one, other)
                    self.assertEqual(shape(told), (len(one), len(other[0])))
                    for row in range(len(one)):
                        for column in range(len(other[0])):
                            wanted = sum(one[row][at] * other[at][column] for at in range(len(other)))
                            self.assertEqual(told[row][column], wanted)
                    self.assertEqual(turned(told), product(turned(other), turned(one)))
                    done += 1
        self.assertGreater(done, 50)

    def test_the_unit_lets_a_table_be(self):
        for table in some_tables(20, -4, 4, 4):
            wide = len(table[0])
            unit = [[int(row == column) for column in range(wide)] for row in range(wide)]
            self.assertEqual(product(table, unit), table)

    def test_what_does_not_fit_is_refused(self):
        for rows, columns in ((1, 1), (2, 3), (8, 8), (8, 1)):
            one = [[1] * columns for _ in range(rows)]
            for many in range(1, 9):
                if many != columns:
                    raised(NoFit, product, one, [[1] * rows for _ in range(many)])

    def test_what_is_no_table_is_refused(self):
        for thing in NO_TABLES:
            raised(BadTable, product, thing, [[1]])
            raised(BadTable, product, [[1]], thing)
            raised(BadTable, product, [[1, 2, 3]], thing)
            raised(BadTable, product, thing, None)
            raised(BadTable, product, other=thing, one=[[1, 2]])


class Led(unittest.TestCase):
    def test_the_sums_of_rows_times_fractions(self):
        self.assertEqual(led([[1, 2], [3, -4]], [(1, 2), (1, 3)]), [(7, 6), (1, 6)])
        self.assertEqual(led([[2, 0]], [(1, 2), (5, 7)]), [(1, 1)])
        self.assertEqual(led([[1, 1]], [(1, 2), (-1, 2)]), [(0, 1)])
        self.assertEqual(led(xs=[(1, LONG)], table=[[LONG], [-1]]), [(1, 1), (-1, LONG)])

    def test_sum_by_sum(self):
        for at, table in enumerate(some_tables(40, -4, 4, 5)):
            xs = some_fractions(len(table[0]), at)
            wanted = [sum(entry * Fraction(*x) for entry, x in zip(row, xs)) for row in table]
            told = led(table, xs)
            self.assertEqual([Fraction(*value) for value in told], wanted)
            self.assertTrue(all(is_fraction(value) for value in told))

    def test_a_product_is_one_table_led_behind_the_other(self):
        tables = list(some_tables(30, -3, 3, 6))
        for one in tables:
            for at, other in enumerate(tables):
                if len(one[0]) == len(other):
                    xs = some_fractions(len(other[0]), at)
                    self.assertEqual(led(product(one, other), xs), led(one, led(other, xs)))

    def test_another_number_of_fractions_is_refused(self):
        for wide in range(1, 9):
            for many in range(10):
                if many != wide:
                    raised(NoFit, led, [[1] * wide], [(1, 2)] * many)

    def test_what_is_no_list_is_refused(self):
        for thing in (None, True, 1, "xs", ((1, 2), (1, 2)), (1, 2), {0: (1, 2), 1: (1, 2)}, {(1, 2), (1, 3)}, Odd()):
            raised(NoFit, led, [[1, 2]], thing)

    def test_what_is_no_list_of_fractions_is_refused(self):
        for thing in NO_FRACTIONS:
            for at in range(3):
                xs = [(1, 2), (0, 1), (-3, 1)]
                xs[at] = thing
                raised(NoFit, led, [[0, 0, 0], [1, 1, 1]], xs)

    def test_what_is_no_table_is_refused_ahead(self):
        for thing in NO_TABLES:
            raised(BadTable, led, thing, [(1, 1)])
            raised(BadTable, led, thing, None)
            raised(BadTable, led, xs=[], table=thing)


class Kept(unittest.TestCase):
    def test_what_is_handed_in_stays_and_what_is_told_is_new(self):
        row = [1, 2]
        table = [row, row]
        for call, given in ((product, (table, table)), (led, (table, [(1, 2), (2, 3)]))):
            as_it_was = deepcopy(given)
            first = call(*given)
            again = deepcopy(first)
            first[0] = "spoilt"
            first.clear()
            self.assertEqual(given, as_it_was)
            self.assertEqual(call(*given), again)

    def test_each_told_row_stands_alone(self):
        told = product([[1, 0], [1, 0]], [[1, 2], [3, 4]])
        told[0][0] = 9
        self.assertEqual(told, [[9, 2], [1, 2]])


if __name__ == "__main__":
    unittest.main()
