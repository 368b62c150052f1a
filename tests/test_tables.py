"""Points [2], [4], [5] and [6]: tables, and what is turned, picked and signed of them."""

import unittest
from copy import deepcopy

from samples import NETLIKE, NO_LISTS, NO_PLACES, NO_TABLES, all_tables, picks, raised, some_tables
from signbook.errors import BadTable, NoPick
from signbook.tables import is_plain, is_table, piece, shape, signed_by, turned

LONG = 10 ** 39 + 7


class Kinds(unittest.TestCase):
    def test_tables(self):
        row = [1, 0]
        for thing in ([[0]], [[-7]], NETLIKE, [[1] * 8] * 8, [[LONG, -LONG]], [row, row], [[1], [2]], [[1, 2]]):
            self.assertIs(is_table(thing), True)

    def test_tables_of_all_shapes(self):
        for rows in range(11):
            for columns in range(11):
                thing = [[rows - columns] * columns for _ in range(rows)]
                self.assertIs(is_table(thing), 1 <= rows <= 8 and 1 <= columns <= 8)

    def test_what_is_no_table(self):
        for thing in NO_TABLES:
            self.assertIs(is_table(thing), False, repr(thing))

    def test_a_wrong_entry_is_found_at_each_place(self):
        for row in range(8):
            for column in range(8):
                thing = [[0] * 8 for _ in range(8)]
                thing[row][column] = True
                self.assertIs(is_table(thing), False)

    def test_a_list_that_has_itself_is_no_table(self):
        thing = []
        thing.append(thing)
        self.assertIs(is_table(thing), False)

    def test_plain(self):
        self.assertIs(is_plain(NETLIKE), True)
        self.assertIs(is_plain([[0]]), True)
        for entry in (2, -2, LONG, -LONG):
            self.assertIs(is_plain([[entry]]), False)
            self.assertIs(is_plain([[0, 1, -1], [1, 1, entry]]), False)
            self.assertIs(is_plain([[entry, 1], [0, 0]]), False)

    def test_shape(self):
        for rows in range(1, 9):
            for columns in range(1, 9):
                self.assertEqual(shape([[0] * columns for _ in range(rows)]), (rows, columns))

    def test_what_is_no_table_is_refused(self):
        for thing in NO_TABLES:
            for call in (is_plain, shape, turned):
                raised(BadTable, call, thing)
            for call in (piece, signed_by):
                raised(BadTable, call, thing, [0], [0])
                raised(BadTable, call, thing, None, "")
                raised(BadTable, call, thing, [], [True])
                raised(BadTable, call, columns=[-1], rows=[9], table=thing)


class Turned(unittest.TestCase):
    def test_rows_are_columns(self):
        self.assertEqual(turned([[1, 2, 3], [4, 5, 6]]), [[1, 4], [2, 5], [3, 6]])
        self.assertEqual(turned([[7]]), [[7]])
        self.assertEqual(turned([[1, 2]]), [[1], [2]])

    def test_twice_it_is_the_table_again(self):
        for table in some_tables(60, -3, 3, 1):
            self.assertEqual(turned(turned(table)), table)
            self.assertEqual(shape(turned(table)), (len(table[0]), len(table)))
            self.assertTrue(all(
                turned(table)[column][row] == table[row][column]
                for row in range(len(table)) for column in range(len(table[0]))
            ))


class Pieces(unittest.TestCase):
    def test_the_entries_where_picks_meet(self):
        table = [[1, 2, 3], [4, 5, 6], [7, 8, 9], [10, 11, 12]]
        self.assertEqual(piece(table, [0, 2], [1, 2]), [[2, 3], [8, 9]])
        self.assertEqual(piece(table, [3], [0]), [[10]])
        self.assertEqual(piece(table, [0, 1, 2, 3], [0, 1, 2]), table)
        self.assertEqual(piece(columns=[2], table=table, rows=[1, 3]), [[6], [12]])

    def test_all_pieces_of_the_largest_table(self):
        table = [[10 * row + column for column in range(8)] for row in range(8)]
        for size in range(1, 9):
            for rows in picks(8, size):
                columns = [7 - at for at in reversed(rows)]
                wanted = [[10 * row + column for column in columns] for row in rows]
                self.assertEqual(piece(table, rows, columns), wanted)


class Signed(unittest.TestCase):
    def test_rows_then_columns(self):
        table = [[1, 2, 3], [4, 5, 6]]
        self.assertEqual(signed_by(table, [], []), table)
        self.assertEqual(signed_by(table, [1], []), [[1, 2, 3], [-4, -5, -6]])
        self.assertEqual(signed_by(table, [], [0, 2]), [[-1, 2, -3], [-4, 5, -6]])
        self.assertEqual(signed_by(table, [1], [0, 2]), [[-1, 2, -3], [4, -5, 6]])
        self.assertEqual(signed_by(columns=[1], rows=[0], table=table), [[-1, 2, -3], [4, -5, 6]])

    def test_a_place_in_both_is_turned_twice(self):
        for table in all_tables(2, 2, (-1, 0, 2)):
            both = signed_by(table, [0, 1], [0, 1])
            self.assertEqual(both, table)
            self.assertEqual(signed_by(table, [0], [1])[0][1], table[0][1])

    def test_twice_it_is_the_table_again(self):
        for table in some_tables(40, -3, 3, 2):
            rows = [at for at in range(len(table)) if sum(table[at]) % 2]
            columns = [at for at in range(len(table[0])) if table[0][at] > 0]
            signed = signed_by(table, rows, columns)
            self.assertEqual(signed_by(signed, rows, columns), table)
            self.assertEqual(signed_by(signed_by(table, rows, []), [], columns), signed)


class Picks(unittest.TestCase):
    """Of a table of three rows and four columns, so that the two have other places."""

    table = [[1, 0, -1, 2], [0, 1, 1, 0], [3, 1, 0, 1]]

    def refused(self, call, rows, columns, at):
        self.assertEqual(raised(NoPick, call, self.table, rows, columns).at, at)
        named = raised(NoPick, call, columns=columns, rows=rows, table=self.table)
        self.assertEqual(named.at, at)

    def test_what_is_no_list(self):
        for call in (piece, signed_by):
            for thing in NO_LISTS:
                self.refused(call, thing, [0], -1)
                self.refused(call, [0], thing, -1)

    def test_an_empty_one_is_none_for_a_piece_alone(self):
        self.refused(piece, [], [0], -1)
        self.refused(piece, [0], [], -1)
        self.refused(piece, [], [], -1)
        for rows, columns in (([], [0]), ([0], []), ([], [])):
            self.assertTrue(is_table(signed_by(self.table, rows, columns)))

    def test_places_that_are_none(self):
        for call in (piece, signed_by):
            for rows, at in (([-1], 0), ([3], 0), ([0, 3], 1), ([0, 1, 2, 3], 3), ([0, -1], 1), ([LONG], 0)):
                self.refused(call, rows, [0], at)
            for columns, at in (([-1], 0), ([4], 0), ([0, 4], 1), ([0, 1, 2, 3, 4], 4), ([2, -2], 1), ([-LONG], 0)):
                self.refused(call, [0], columns, at)

    def test_places_that_do_not_rise(self):
        for call in (piece, signed_by):
            for pick, at in (([0, 0], 1), ([1, 0], 1), ([0, 2, 2], 2), ([0, 2, 1], 2), ([2, 1, 0], 1)):
                self.refused(call, pick, [0], at)
                self.refused(call, [0], pick, at)

    def test_other_things_at_each_place(self):
        for call in (piece, signed_by):
            for thing in NO_PLACES:
                for at in range(3):
                    pick = [0, 1, 2]
                    pick[at] = thing
                    self.refused(call, pick, [0], at)
                    self.refused(call, [0], pick, at)

    def test_the_first_wrong_thing_counts(self):
        for call in (piece, signed_by):
            self.refused(call, [0, None, -1], [0], 1)
            self.refused(call, [1, 0, None], [0], 1)
            self.refused(call, ["0", 0, 0], [0], 0)
            self.refused(call, [0], [0, 9, 9], 1)

    def test_rows_are_refused_ahead_of_columns(self):
        for call in (piece, signed_by):
            self.refused(call, [0, 1, 1], None, 2)
            self.refused(call, None, [0, 1, 1], -1)
            self.refused(call, [0, 5], [5], 1)

    def test_rows_have_the_places_of_rows_and_columns_those_of_columns(self):
        self.assertEqual(piece(self.table, [2], [3]), [[1]])
        self.assertEqual(signed_by(self.table, [2], [3])[2], [-3, -1, 0, 1])


class Kept(unittest.TestCase):
    def calls(self, table):
        rows, columns = [0, 1], [1, 2]
        yield turned, (table,)
        yield piece, (table, rows, columns)
        yield signed_by, (table, rows, columns)
        yield signed_by, (table, [], [])

    def test_what_is_handed_in_stays_and_what_is_told_is_new(self):
        for table in ([[1, 2, 3], [4, 5, 6]], NETLIKE, [[1, -1, 0]] * 3):
            for call, given in self.calls(table):
                as_it_was = deepcopy(given)
                first = call(*given)
                self.assertEqual(given, as_it_was)
                again = deepcopy(first)
                for row in first:
                    row[0] = 99
                first.append("spoilt")
                self.assertEqual(given, as_it_was)
                self.assertEqual(call(*given), again)

    def test_one_list_may_be_both_picks(self):
        pick = [0, 2]
        self.assertEqual(piece(NETLIKE, pick, pick), [[1, -1], [1, 0]])
        self.assertEqual(signed_by(NETLIKE, pick, pick), [[1, 0, -1], [0, 1, -1], [1, -1, 0]])
        self.assertEqual(pick, [0, 2])

    def test_a_row_that_stands_twice_is_told_as_two(self):
        row = [1, 2]
        told = signed_by([row, row], [], [])
        told[0][0] = 9
        self.assertEqual((told, row), ([[9, 2], [1, 2]], [1, 2]))
        self.assertEqual(signed_by([row, row], [0], []), [[-1, -2], [1, 2]])
        self.assertEqual(shape([row, row]), (2, 2))


if __name__ == "__main__":
    unittest.main()
