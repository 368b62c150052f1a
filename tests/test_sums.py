"""Points [2] to [4] and [45] to [48]: tables put together of two, and blocks that hang together."""

import unittest
from copy import deepcopy
from random import Random

from samples import NETLIKE, NO_TABLES, Odd, all_tables, is_sound, raised, ring, some_tables, sound_tables
from signbook.errors import BadTable, NoSum, TooMany
from signbook.signs import is_unimodular
from signbook.sums import beside, parts, three_sum, two_sum
from signbook.tables import is_table, piece, turned
from tasks import LONG

FIRST = [[7, 5, 5], [8, 0, 1]]
SECOND = [[1, 0, 9], [4, 4, 3]]
SUMS = (beside, two_sum, three_sum)


def some_table(chance, rows, columns, most=9):
    """Tell a table of a shape."""
    return [[chance.randint(-most, most) for _ in range(columns)] for _ in range(rows)]


def first_part(chance, rows, columns, most=9):
    """Tell a table that three_sum takes as the one."""
    table = some_table(chance, rows, columns, most)
    for row in table[:-1]:
        row[-1] = row[-2]
    table[-1][-2:] = [0, 1]
    return table


def second_part(chance, rows, columns, most=9):
    """Tell a table that three_sum takes as the other."""
    return turned_about(first_part(chance, rows, columns, most))


def turned_about(table):
    """Tell the table with its rows and columns in the order from the last."""
    return [row[::-1] for row in table[::-1]]


def slow_beside(one, other):
    """Tell the table beside by where each row and column comes from."""
    rows = [(0, at) for at in range(len(one))] + [(1, at) for at in range(len(other))]
    columns = [(0, at) for at in range(len(one[0]))] + [(1, at) for at in range(len(other[0]))]
    return [
        [(one, other)[row[0]][row[1]][column[1]] if row[0] == column[0] else 0 for column in columns] for row in rows
    ]


def slow_two_sum(one, other):
    """Tell the sum by where each row and column comes from."""
    rows = [(0, at) for at in range(len(one))] + [(1, at) for at in range(1, len(other))]
    columns = [(0, at) for at in range(len(one[0]) - 1)] + [(1, at) for at in range(len(other[0]))]
    entries = {
        (0, 0): lambda row, column: one[row][column],
        (0, 1): lambda row, column: one[row][-1] * other[0][column],
        (1, 0): lambda row, column: 0,
        (1, 1): lambda row, column: other[row][column],
    }
    return [[entries[row[0], column[0]](row[1], column[1]) for column in columns] for row in rows]


def slow_three_sum(one, other):
    """Tell the sum by where each row and column comes from."""
    rows = [(0, at) for at in range(len(one) - 1)] + [(1, at) for at in range(1, len(other))]
    columns = [(0, at) for at in range(len(one[0]) - 2)] + [(1, at) for at in range(2, len(other[0]))]
    entries = {
        (0, 0): lambda row, column: one[row][column],
        (0, 1): lambda row, column: one[row][-1] * other[0][column],
        (1, 0): lambda row, column: other[row][0] * one[-1][column],
        (1, 1): lambda row, column: other[row][column],
    }
    return [[entries[row[0], column[0]](row[1], column[1]) for column in columns] for row in rows]


class Sums(unittest.TestCase):
    def check(self, told, wanted):
        self.assertEqual(told, wanted)
        self.assertTrue(is_table(told))

    def test_some(self):
        self.assertEqual(beside([[1]], [[2, 3]]), [[1, 0, 0], [0, 2, 3]])
        self.assertEqual(two_sum([[1, 2], [3, 4]], [[5, 6], [7, 8]]), [[1, 10, 12], [3, 20, 24], [0, 7, 8]])
        self.assertEqual(two_sum([[2], [3]], [[5, 6]]), [[10, 12], [15, 18]])
        self.assertEqual(two_sum([[1, 2]], [[3]]), [[1, 6]])
        self.assertEqual(two_sum([[2]], [[3], [4]]), [[6], [4]])
        self.assertEqual(three_sum(FIRST, SECOND), [[7, 45], [32, 3]])
        for call in SUMS:
            self.assertEqual(call(FIRST, SECOND), call(other=SECOND, one=FIRST))

    def test_beside_entry_by_entry(self):
        chance = Random(601)
        for one, other in zip(some_tables(120, -9, 9, 602), some_tables(120, -LONG, LONG, 603)):
            one, other = [row[:4] for row in one[:4]], [row[:4] for row in other[:4]]
            self.check(beside(one, other), slow_beside(one, other))
        for rows in range(1, 8):
            for columns in range(1, 8):
                one, other = some_table(chance, rows, columns), some_table(chance, 8 - rows, 8 - columns, LONG)
                self.check(beside(one, other), slow_beside(one, other))

    def test_two_sum_entry_by_entry(self):
        chance = Random(604)
        for rows in range(1, 9):
            for columns in range(1, 9):
                for up in range(1, 10 - rows):
                    most = chance.choice((1, 9, LONG))
                    # The sum has just eight rows and columns, or fewer.
                    for behind in {chance.randint(1, 9 - columns), min(8, 9 - columns)}:
                        one, other = some_table(chance, rows, columns, most), some_table(chance, up, behind, most)
                        self.check(two_sum(one, other), slow_two_sum(one, other))

    def test_three_sum_entry_by_entry(self):
        chance = Random(605)
        for rows in range(2, 9):
            for columns in range(3, 9):
                for up in range(2, min(8, 10 - rows) + 1):
                    most = chance.choice((1, 9, LONG))
                    for behind in {chance.randint(3, min(8, 12 - columns)), min(8, 12 - columns)}:
                        one, other = first_part(chance, rows, columns, most), second_part(chance, up, behind, most)
                        told = three_sum(one, other)
                        self.check(told, slow_three_sum(one, other))
                        self.assertEqual((len(told), len(told[0])), (rows + up - 2, columns + behind - 4))

    def test_three_beside_one_another(self):
        for one, other, third in zip(
            some_tables(60, -9, 9, 606), some_tables(60, -9, 9, 607), some_tables(60, -9, 9, 608)
        ):
            one, other, third = one[:2], other[:3], third[:3]
            one, other, third = [[row[:2] for row in table] for table in (one, other, third)]
            wanted = beside(beside(one, other), third)
            self.assertEqual(beside(one, beside(other, third)), wanted)

    def test_the_sum_turned_about_is_that_of_the_ones_exchanged_and_turned_about(self):
        chance = Random(609)
        for _ in range(100):
            one = first_part(chance, chance.randint(2, 4), chance.randint(3, 5))
            other = second_part(chance, chance.randint(2, 4), chance.randint(3, 5))
            self.assertEqual(turned_about(three_sum(one, other)), three_sum(turned_about(other), turned_about(one)))
            one, other = [row[:4] for row in one], [row[:4] for row in other]
            self.assertEqual(turned_about(beside(one, other)), beside(turned_about(other), turned_about(one)))

    def test_the_turned_sum_is_that_of_the_turned_ones(self):
        chance = Random(613)
        for one, other in zip(some_tables(100, -9, 9, 614), some_tables(100, -9, 9, 615)):
            one, other = [row[:4] for row in one[:4]], [row[:4] for row in other[:4]]
            self.assertEqual(turned(beside(one, other)), beside(turned(one), turned(other)))
            # Turned, the shared column is the last row: turned about it is the first one.
            exchanged = two_sum(turned_about(turned(other)), turned_about(turned(one)))
            self.assertEqual(turned_about(turned(two_sum(one, other))), exchanged)
        for _ in range(100):
            one = first_part(chance, chance.randint(2, 4), chance.randint(3, 5))
            other = second_part(chance, chance.randint(2, 4), chance.randint(3, 5))
            upper, along = [row[-1] for row in one[:-1]], one[-1][:-2]
            across, lower = other[0][2:], [row[0] for row in other[1:]]
            left, right = turned([row[:-2] for row in one[:-1]]), turned([row[2:] for row in other[1:]])
            # The blocks turned, with the shared lines in their places, exchanged.
            first = [row + [x, x] for row, x in zip(right, across)] + [[*lower, 0, 1]]
            second = [[1, 0, *upper]] + [[x, x] + row for row, x in zip(left, along)]
            told = three_sum(first, second)
            rows, columns = len(across), len(lower)
            mixed = [row[columns:] + row[:columns] for row in told[rows:] + told[:rows]]
            self.assertEqual(mixed, turned(three_sum(one, other)))

    def test_too_many(self):
        chance = Random(610)
        for rows, up, columns, behind in ((5, 4, 1, 1), (1, 1, 4, 5), (8, 8, 8, 8), (8, 1, 1, 1), (1, 1, 1, 8)):
            one, other = some_table(chance, rows, columns), some_table(chance, up, behind)
            self.assertEqual(raised(TooMany, beside, one, other).many, 8)
        for rows, up, columns, behind in (
            (5, 5, 1, 1), (8, 2, 3, 3), (1, 1, 5, 5), (1, 8, 2, 8), (8, 8, 8, 8),
            (2, 8, 1, 1),
        ):
            one, other = some_table(chance, rows, columns), some_table(chance, up, behind)
            self.assertEqual(raised(TooMany, two_sum, one, other).many, 8)
        for rows, up, columns, behind in (
            (6, 5, 3, 3), (2, 2, 8, 5), (3, 8, 3, 3), (8, 8, 8, 8), (8, 3, 5, 3),
            (2, 2, 5, 8),
        ):
            one, other = first_part(chance, rows, columns), second_part(chance, up, behind)
            self.assertEqual(raised(TooMany, three_sum, one, other).many, 8)
            self.assertEqual(raised(TooMany, three_sum, other=other, one=one).many, 8)

    def test_what_is_no_table(self):
        for call in SUMS:
            for thing in NO_TABLES:
                for right in (FIRST, SECOND, [[1] * 8] * 8, [[1]]):
                    raised(BadTable, call, thing, right)
                    raised(BadTable, call, right, thing)
                    raised(BadTable, call, other=thing, one=right)
                raised(BadTable, call, thing, Odd())


class NoSums(unittest.TestCase):
    def check(self, at, one, other):
        self.assertEqual(raised(NoSum, three_sum, one, other).at, at)
        self.assertEqual(raised(NoSum, three_sum, other=other, one=one).at, at)

    def test_an_entry_of_the_shared_columns_otherwise(self):
        chance = Random(611)
        for _ in range(40):
            one = first_part(chance, chance.randint(2, 8), chance.randint(3, 8))
            other = second_part(chance, chance.randint(2, 8), chance.randint(3, 8))
            for row in range(len(one)):
                for column in (-1, -2):
                    wrong = deepcopy(one)
                    wrong[row][column] += chance.choice((1, -1, 7))
                    self.check(0, wrong, other)
                    self.check(0, wrong, [[5]])
            for row in range(len(other)):
                for column in (0, 1):
                    wrong = deepcopy(other)
                    wrong[row][column] += chance.choice((1, -1, 7))
                    self.check(1, one, wrong)

    def test_too_few_rows_or_columns(self):
        for table in ([[5, 0, 1]], [[1, 0, 1]], [[1, 1], [0, 1]], [[0, 1]], [[0], [1]], [[1]]):
            self.check(0, table, SECOND)
            self.check(0, table, table)
        for table in ([[1, 0, 5]], [[1, 0], [1, 1]], [[1, 0]], [[1], [0]], [[1]]):
            self.check(1, FIRST, table)

    def test_the_ones_exchanged(self):
        self.check(0, SECOND, FIRST)
        self.check(1, FIRST, FIRST)
        self.check(0, SECOND, SECOND)
        self.check(0, [[7, 5, 5], [8, 1, 0]], SECOND)
        self.check(1, FIRST, [[0, 1, 9], [4, 4, 3]])
        self.check(0, [[7, 5, 5], [8, 0, -1]], SECOND)
        self.check(1, FIRST, [[-1, 0, 9], [4, 4, 3]])
        self.check(1, FIRST, [[4, 4, 3], [1, 0, 9]])
        self.check(0, [[8, 0, 1], [7, 5, 5]], SECOND)

    def test_ahead_of_too_many(self):
        chance = Random(612)
        one, other = first_part(chance, 8, 8), second_part(chance, 8, 8)
        raised(TooMany, three_sum, one, other)
        wrong_one, wrong_other = deepcopy(one), deepcopy(other)
        wrong_one[0][-1] += 1
        wrong_other[-1][0] += 1
        self.check(0, wrong_one, other)
        self.check(0, wrong_one, wrong_other)
        self.check(1, one, wrong_other)


def slow_parts(table):
    """Tell the blocks by walking from each row, then each column, not yet met."""
    nodes = [(0, at) for at in range(len(table))] + [(1, at) for at in range(len(table[0]))]
    met, told = set(), []
    for node in nodes:
        if node not in met:
            block = {node}
            while True:
                more = {
                    end for row, entries in enumerate(table) for column, entry in enumerate(entries) if entry
                    for end in ((0, row), (1, column)) if {(0, row), (1, column)} & block
                }
                if more <= block:
                    break
                block |= more
            met |= block
            told.append(tuple(sorted(at for kind, at in block if kind == which) for which in (0, 1)))
    return told


class Parts(unittest.TestCase):
    def test_some(self):
        self.assertEqual(parts([[0]]), [([0], []), ([], [0])])
        self.assertEqual(parts([[-5]]), [([0], [0])])
        self.assertEqual(parts(table=[[0, 1], [1, 0]]), [([0], [1]), ([1], [0])])
        self.assertEqual(parts([[0, 1, 0], [0, 0, 0], [2, 0, 0], [0, -3, 0]]), [
            ([0, 3], [1]), ([1], []), ([2], [0]), ([], [2]),
        ])
        self.assertEqual(parts([[0, 0], [0, 0]]), [([0], []), ([1], []), ([], [0]), ([], [1])])
        self.assertEqual(parts([[1, 0, 0, 1], [0, 1, 1, 0], [0, 0, 1, 1]]), [([0, 1, 2], [0, 1, 2, 3])])

    def test_blocks_by_walking(self):
        chance = Random(621)
        tables = [*all_tables(2, 3, (0, 1)), *all_tables(3, 3, (0, -1)), *some_tables(60, 0, 1, 622)]
        for _ in range(250):
            rows, columns = chance.randint(1, 8), chance.randint(1, 8)
            share = chance.choice((0.1, 0.2, 0.3))
            tables.append([
                [chance.choice((1, -1, 2, LONG)) if chance.random() < share else 0 for _ in range(columns)]
                for _ in range(rows)
            ])
        for table in tables:
            told = parts(table)
            self.assertEqual(told, slow_parts(table))
            self.assertEqual({type(block) for block in told}, {tuple})
            self.assertEqual({type(places) for block in told for places in block}, {list})
            self.assertEqual(sorted(at for rows, _ in told for at in rows), list(range(len(table))))
            self.assertEqual(sorted(at for _, columns in told for at in columns), list(range(len(table[0]))))

    def test_those_with_rows_stand_ahead(self):
        for table in some_tables(100, -1, 1, 623):
            table = [[entry if (row + column) % 5 == 0 else 0 for column, entry in enumerate(entries)]
                     for row, entries in enumerate(table)]
            told = parts(table)
            rows = [block[0][0] for block in told if block[0]]
            columns = [block[1][0] for block in told if not block[0]]
            self.assertEqual(rows, sorted(rows))
            self.assertEqual(columns, sorted(columns))
            self.assertEqual([bool(block[0]) for block in told], [True] * len(rows) + [False] * len(columns))

    def test_unimodular_just_where_each_blocks_piece_is(self):
        chance = Random(624)
        seen = {True: 0, False: 0}
        for _ in range(200):
            blocks = [chance.choice((NETLIKE, ring(3), ring(2), [[1, -1]], [[1], [1]], [[0, 1]], [[1, 1], [0, 1]])),
                      chance.choice((NETLIKE, [[1, 1, 1]], [[1]], [[2]], [[0]], [[1, -1], [1, 0]]))]
            table = beside(*blocks)
            chance.shuffle(table)
            columns = turned(table)
            chance.shuffle(columns)
            table = turned(columns)
            pieces = [piece(table, rows, columns) for rows, columns in parts(table) if rows and columns]
            wanted = all(is_unimodular(one) for one in pieces)
            self.assertEqual(is_unimodular(table), wanted)
            seen[wanted] += 1
        self.assertGreater(min(seen.values()), 40)

    def test_what_is_no_table(self):
        for thing in NO_TABLES:
            raised(BadTable, parts, thing)
            raised(BadTable, parts, table=thing)


class Unimodular(unittest.TestCase):
    def small(self, seed):
        chance = Random(seed)
        for table in [*sound_tables(40, seed), *some_tables(60, -1, 1, seed)]:
            rows, columns = chance.randint(1, 3), chance.randint(1, 3)
            yield [row[:columns] for row in table[:rows]]

    def test_beside_just_where_both_are(self):
        seen = {True: 0, False: 0}
        for one, other in zip(self.small(631), self.small(632)):
            wanted = is_sound(one) and is_sound(other)
            self.assertEqual(is_sound(beside(one, other)), wanted)
            seen[wanted] += 1
        self.assertGreater(min(seen.values()), 9)

    def test_two_sum_just_where_both_are_unless_it_shares_noughts(self):
        seen = {True: 0, False: 0}
        for seed in (633, 635):
            for one, other in zip(self.small(seed), self.small(seed + 1)):
                told = is_unimodular(two_sum(one, other))
                both = is_unimodular(one) and is_unimodular(other)
                if any(row[-1] for row in one) and any(other[0]):
                    self.assertEqual(told, both)
                    seen[both] += 1
                elif both:
                    self.assertTrue(told)
        self.assertGreater(min(seen.values()), 9)
        # With noughts shared, what is bad may be gone.
        self.assertTrue(is_unimodular(two_sum([[1, 0]], [[2], [1]])))

    def test_three_sum_where_both_are(self):
        seen = 0
        chance = Random(637)
        for _ in range(3000):
            one = first_part(chance, chance.randint(2, 4), chance.randint(3, 5), 1)
            other = second_part(chance, chance.randint(2, 4), chance.randint(3, 5), 1)
            if is_unimodular(one) and is_unimodular(other):
                self.assertTrue(is_unimodular(three_sum(one, other)))
                seen += 1
        self.assertGreater(seen, 60)

    def test_three_sum_may_be_where_one_is_not(self):
        one = [[1, 0, 0], [2, 0, 1]]
        self.assertFalse(is_unimodular(one))
        self.assertTrue(is_unimodular(three_sum(one, [[1, 0, 1], [0, 0, 1]])))


class Kept(unittest.TestCase):
    def test_what_is_handed_in_stays_and_what_is_told_is_new(self):
        for call in (*SUMS, lambda one, other: parts(one)):
            one, other = deepcopy(FIRST), deepcopy(SECOND)
            told = call(one, other)
            again = deepcopy(told)
            handed = {id(thing) for thing in (one, other, *one, *other)}
            self.assertFalse(handed & {id(thing) for thing in (told, *told)})
            for thing in told:
                (thing if isinstance(thing, list) else thing[0])[0] = "spoilt"
            told.append("spoilt")
            self.assertEqual((one, other), (FIRST, SECOND))
            self.assertEqual(call(one, other), again)

    def test_a_table_with_itself(self):
        for table in (FIRST, [[0]], [[1, 2], [3, 4]]):
            told = beside(table, table)
            self.assertEqual(told, slow_beside(table, table))
            self.assertEqual(len({id(row) for row in told}), 2 * len(table))
            self.assertEqual(two_sum(table, table), slow_two_sum(table, table))

    def test_a_row_that_stands_twice_as_one_object(self):
        row = [1, 2]
        told = two_sum([row, row], [row, row])
        self.assertEqual(told, [[1, 2, 4], [1, 2, 4], [0, 1, 2]])
        self.assertEqual(len({id(one) for one in told}), 3)

    def test_what_is_changed_and_changed_back(self):
        one, other = deepcopy(FIRST), deepcopy(SECOND)
        wanted = three_sum(one, other)
        one[1][1] = 5
        self.assertEqual(raised(NoSum, three_sum, one, other).at, 0)
        self.assertEqual(two_sum(one, other), slow_two_sum(one, other))
        one[1][1] = 0
        self.assertEqual(three_sum(one, other), wanted)
        other[0][2] = 0
        self.assertEqual(three_sum(one, other), slow_three_sum(one, other))
        self.assertEqual(parts([other[0]]), [([0], [0]), ([], [1]), ([], [2])])
        other[0][2] = 9
        self.assertEqual(three_sum(one, other), wanted)
        self.assertEqual(parts([other[0]]), [([0], [0, 2]), ([], [1])])


if __name__ == "__main__":
    unittest.main()
