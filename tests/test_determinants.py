"""Points [8] and [14]: determinants and ranks, and what keeps them."""

import unittest
from copy import deepcopy
from itertools import combinations
from random import Random

from samples import NO_TABLES, all_tables, picks, raised, slow_determinant, some_tables
from signbook.errors import BadTable, NoFit
from signbook.tables import determinant, piece, product, rank, signed_by, turned

LONG = 10 ** 30


def some_squares(many, size, low, high, seed):
    """Tell as many squares of a size, the same ones each time."""
    chance = Random(seed)
    return [[[chance.randint(low, high) for _ in range(size)] for _ in range(size)] for _ in range(many)]


def slow_rank(table):
    """Tell the greatest size of a square whose determinant, told the slow way, is not 0."""
    for size in range(min(len(table), len(table[0])), 0, -1):
        for rows in picks(len(table), size):
            for columns in picks(len(table[0]), size):
                if slow_determinant(piece(table, rows, columns)) != 0:
                    return size
    return 0


class Determinants(unittest.TestCase):
    def test_some(self):
        self.assertEqual(determinant([[5]]), 5)
        self.assertEqual(determinant([[0]]), 0)
        self.assertEqual(determinant([[1, 2], [3, 4]]), -2)
        self.assertEqual(determinant([[0, 1], [1, 0]]), -1)
        self.assertEqual(determinant([[1, 1, 0], [0, 1, 1], [1, 0, 1]]), 2)
        self.assertEqual(determinant(table=[[0, 0, 1], [1, 0, 0], [0, 1, 0]]), 1)

    def test_all_small_squares(self):
        for size, entries in ((1, range(-3, 4)), (2, (-2, -1, 0, 1, 3)), (3, (-1, 0, 1))):
            for table in all_tables(size, size, entries):
                self.assertEqual(determinant(table), slow_determinant(table))

    def test_of_each_size(self):
        for size in range(1, 9):
            for low, high in ((-1, 1), (0, 1), (-5, 5)):
                for table in some_squares(2 if size > 6 else 8, size, low, high, size):
                    self.assertEqual(determinant(table), slow_determinant(table))

    def test_of_long_entries(self):
        for size in range(1, 8):
            for table in some_squares(2, size, -LONG, LONG, 20 + size):
                self.assertEqual(determinant(table), slow_determinant(table))

    def test_of_rows_that_hang_on_one_another(self):
        for size in range(2, 9):
            for table in some_squares(4, size, -LONG, LONG, 40 + size):
                table[-1] = [sum(column) for column in zip(*table[:-1])]
                self.assertEqual(determinant(table), 0)
                table[0] = [0] * size
                self.assertEqual(determinant(table), 0)

    def test_of_steps_and_of_orders(self):
        for size in range(1, 9):
            steps = [[row + 2 if row == column else int(column > row) for column in range(size)] for row in range(size)]
            wanted = 1
            for entry in range(2, size + 2):
                wanted *= entry
            self.assertEqual(determinant(steps), wanted)
            self.assertEqual(determinant(turned(steps)), wanted)
            back = steps[::-1]
            self.assertEqual(determinant(back), wanted * (-1) ** (size * (size - 1) // 2))

    def test_where_there_are_other_rows_than_columns_it_is_refused(self):
        for rows in range(1, 9):
            for columns in range(1, 9):
                if rows != columns:
                    raised(NoFit, determinant, [[0] * columns for _ in range(rows)])

    def test_what_is_no_table_is_refused(self):
        for thing in NO_TABLES:
            raised(BadTable, determinant, thing)
            raised(BadTable, determinant, table=thing)


class KeptByDeterminants(unittest.TestCase):
    def cases(self):
        for size in range(1, 9):
            yield from some_squares(4, size, -4, 4, 60 + size)

    def test_the_turned_square_has_the_same(self):
        for table in self.cases():
            self.assertEqual(determinant(turned(table)), determinant(table))

    def test_a_product_has_the_product(self):
        for table in self.cases():
            other = some_squares(1, len(table), -4, 4, sum(table[0]))[0]
            self.assertEqual(determinant(product(table, other)), determinant(table) * determinant(other))

    def test_one_row_or_column_signed_otherwise_turns_the_sign(self):
        for table in self.cases():
            for at in range(len(table)):
                self.assertEqual(determinant(signed_by(table, [at], [])), -determinant(table))
                self.assertEqual(determinant(signed_by(table, [], [at])), -determinant(table))

    def test_rows_exchanged_times_a_number_and_added(self):
        for table in self.cases():
            value = determinant(table)
            for one, other in combinations(range(len(table)), 2):
                rows = list(table)
                rows[one], rows[other] = rows[other], rows[one]
                self.assertEqual(determinant(rows), -value)
                rows = list(table)
                rows[one] = [7 * entry for entry in rows[one]]
                self.assertEqual(determinant(rows), 7 * value)
                rows = list(table)
                rows[other] = [a - 3 * b for a, b in zip(rows[other], rows[one])]
                self.assertEqual(determinant(rows), value)


class Ranks(unittest.TestCase):
    def test_some(self):
        self.assertEqual(rank([[0]]), 0)
        self.assertEqual(rank([[-3]]), 1)
        self.assertEqual(rank([[1, 2], [2, 4]]), 1)
        self.assertEqual(rank([[0, 0, 1], [0, 0, 2], [0, 1, 0]]), 2)
        self.assertEqual(rank(table=[[0, 0, 3, 0]]), 1)

    def test_of_noughts_alone(self):
        for rows in range(1, 9):
            for columns in range(1, 9):
                self.assertEqual(rank([[0] * columns for _ in range(rows)]), 0)

    def test_all_small_tables(self):
        for rows, columns, entries in ((2, 2, (-1, 0, 1, 2)), (2, 3, (-1, 0, 1)), (3, 2, (-1, 0, 2)), (3, 3, (0, 1))):
            for table in all_tables(rows, columns, entries):
                self.assertEqual(rank(table), slow_rank(table))

    def test_of_products_through_few_columns(self):
        chance = Random(8)
        for many in range(1, 6):
            for _ in range(5):
                one = [[chance.randint(-1, 1) for _ in range(many)] for _ in range(6)]
                other = [[chance.randint(-1, 1) for _ in range(5)] for _ in range(many)]
                told = product(one, other)
                self.assertEqual(rank(told), slow_rank(told))
                self.assertLessEqual(rank(told), min(rank(one), rank(other)))

    def test_of_long_entries(self):
        for at, table in enumerate(some_tables(30, -LONG, LONG, 9)):
            self.assertEqual(rank(table), min(len(table), len(table[0])))
            table[-1] = [(at - 7) * entry for entry in table[0]]
            self.assertEqual(rank(table), min(max(len(table) - 1, int(table[0][0] != 0)), len(table[0])))

    def test_the_turned_one_has_the_same(self):
        for table in [*some_tables(80, -1, 1, 10), *some_tables(80, 0, 1, 11)]:
            self.assertEqual(rank(turned(table)), rank(table))

    def test_exchanges_signs_and_sums_keep_it(self):
        for table in some_tables(40, -1, 1, 12):
            wanted = rank(table)
            self.assertEqual(rank(table[::-1]), wanted)
            self.assertEqual(rank([row[::-1] for row in table]), wanted)
            self.assertEqual(rank(signed_by(table, [0], [len(table[0]) - 1])), wanted)
            self.assertEqual(rank([[5 * entry for entry in table[0]]] + table[1:]), wanted)
            if len(table) > 1:
                self.assertEqual(rank([[a + b for a, b in zip(*table[:2])]] + table[1:]), wanted)

    def test_it_is_full_just_where_the_determinant_is_not_0(self):
        for table in some_tables(80, -1, 1, 13, square=True):
            self.assertEqual(rank(table) == len(table), determinant(table) != 0)

    def test_what_is_no_table_is_refused(self):
        for thing in NO_TABLES:
            raised(BadTable, rank, thing)
            raised(BadTable, rank, table=thing)


class Kept(unittest.TestCase):
    def test_what_is_handed_in_stays(self):
        row = [0, 1, 2]
        for table in ([row, row, [1, 0, 0]], [[0, 0, 1], [0, 1, 0], [1, 0, 0]]):
            as_it_was = deepcopy(table)
            for call in (determinant, rank):
                self.assertEqual(call(table), call(table))
                self.assertEqual(table, as_it_was)


if __name__ == "__main__":
    unittest.main()
