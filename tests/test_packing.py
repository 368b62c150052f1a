"""Points [2] to [4] and [49] to [52]: packings and covers, pairs and lines, of tables of noughts and ones."""

import unittest
from copy import deepcopy
from itertools import combinations, product as choices
from random import Random

from samples import (
    NO_LISTS, NO_TABLES, Odd, all_tables, is_sound, raised, ring, some_nets, some_stretches, some_tables,
)
from signbook.errors import BadTable, NotPlain, TooMany
from signbook.packing import bought, crossing, packed, paired
from signbook.programs import best
from signbook.signs import is_unimodular
from tasks import LONG, check_refused, wrong_lists

OTHERS = (-1, 2, -2, LONG, -LONG)


def some_ones(many, seed, rows=8, columns=8):
    """Tell tables of noughts and ones of shapes up to one, few ones and many, the same each time."""
    chance = Random(seed)
    for _ in range(many):
        share = chance.choice((0.1, 0.25, 0.4, 0.6, 0.8))
        wide = chance.randint(1, columns)
        yield [[int(chance.random() < share) for _ in range(wide)] for _ in range(chance.randint(1, rows))]


def ones_of(tables):
    """Tell the tables without their signs."""
    return [[[abs(entry) for entry in row] for row in table] for table in tables]


def ring_of_ones(size):
    """Tell a ring without its one sign."""
    return ones_of([ring(size)])[0]


def sets(many):
    """Tell all sets of so many places, as rising lists."""
    return [list(some) for size in range(many + 1) for some in combinations(range(many), size)]


def column_sets(table):
    """Tell for each column the set of its ones' rows."""
    return [{at for at, entry in enumerate(column) if entry} for column in zip(*table)]


def is_packing(table, columns):
    """Tell whether columns, none of them bare, have no two ones in a row."""
    rows = column_sets(table)
    return all(rows[at] for at in columns) and all(
        not rows[one] & rows[other] for one, other in combinations(columns, 2)
    )


def is_cover(table, rows):
    """Tell whether each column that is not bare has a one in one of the rows."""
    return all(not ones or ones & set(rows) for ones in column_sets(table))


def slow_packed(table):
    """Tell the greatest packing and the least cover, the least list of several, set by set."""
    packings = [columns for columns in sets(len(table[0])) if is_packing(table, columns)]
    covers = [rows for rows in sets(len(table)) if is_cover(table, rows)]
    most, least = max(map(len, packings)), min(map(len, covers))
    return (
        min(columns for columns in packings if len(columns) == most),
        min(rows for rows in covers if len(rows) == least),
    )


def slow_bought(table, worths):
    """Tell the packing of the most worth and the numbers of rows that pay, the least lists of several, one by one."""
    def worth(columns):
        return sum(worths[at] for at in columns)

    packings = [
        columns for columns in sets(len(table[0]))
        if is_packing(table, columns) and all(worths[at] for at in columns)
    ]
    rows = column_sets(table)
    # One beyond the greatest worth, to see that it is never of use.
    paying = [
        list(copies) for copies in choices(range(max(worths) + 2), repeat=len(table))
        if all(not ones or sum(copies[row] for row in ones) >= worth for ones, worth in zip(rows, worths))
    ]
    most, least = max(map(worth, packings)), min(map(sum, paying))
    return (
        min(columns for columns in packings if worth(columns) == most),
        min(copies for copies in paying if sum(copies) == least),
    )


def slow_most_pairs(table, row=0, used=()):
    """Tell how many ones there are at most, no two of them in one row or column."""
    if row == len(table):
        return 0
    most = slow_most_pairs(table, row + 1, used)
    for column, entry in enumerate(table[row]):
        if entry and column not in used:
            most = max(most, 1 + slow_most_pairs(table, row + 1, (*used, column)))
    return most


class Refused(unittest.TestCase):
    """What the four functions refuse alike."""

    CALLS = (packed, paired, crossing, lambda table: bought(table, [0] * 99), lambda table: bought(table, Odd()))

    def test_what_is_no_table(self):
        for call in self.CALLS:
            for thing in NO_TABLES:
                raised(BadTable, call, thing)
        for call in (packed, paired, crossing):
            for thing in NO_TABLES:
                raised(BadTable, call, table=thing)
        for thing in NO_TABLES:
            raised(BadTable, bought, worths=[1], table=thing)

    def test_other_entries_than_noughts_and_ones(self):
        for call in self.CALLS:
            for entry in OTHERS:
                for rows, columns in ((1, 1), (2, 3), (6, 2), (2, 6), (8, 8)):
                    for row, column in ((0, 0), (rows - 1, columns - 1)):
                        for rest in (0, 1):
                            table = [[rest] * columns for _ in range(rows)]
                            table[row][column] = entry
                            raised(NotPlain, call, table)


class Packed(unittest.TestCase):
    def test_some(self):
        self.assertEqual(packed([[0]]), ([], []))
        self.assertEqual(packed([[1]]), ([0], [0]))
        self.assertEqual(packed(table=[[1, 1, 0], [0, 1, 1]]), ([0, 2], [0, 1]))
        self.assertEqual(packed(ring(3)), ([0], [0, 1]))
        self.assertEqual(packed([[0, 1, 1], [0, 1, 1]]), ([1], [0]))
        self.assertEqual(packed([[0] * 8] * 8), ([], []))
        self.assertEqual(packed([[1, 1, 0], [1, 0, 1]]), ([1, 2], [0, 1]))

    def test_set_by_set(self):
        parted = 0
        tables = [*all_tables(3, 3, (0, 1)), *all_tables(2, 4, (0, 1)), *all_tables(4, 2, (0, 1))]
        for table in [*tables, *some_ones(150, 701, 6, 6), *map(ring_of_ones, range(3, 8))]:
            told = packed(table)
            self.assertEqual(told, slow_packed(table))
            self.assertEqual([type(told), *map(type, told)], [tuple, list, list])
            self.assertLessEqual(len(told[0]), len(told[1]))
            parted += len(told[0]) < len(told[1])
        self.assertGreater(parted, 8)

    def test_eight_rows_and_columns(self):
        chance = Random(702)
        shares = (0.1, 0.2, 0.3, 0.5)
        tables = [[[int(chance.random() < share) for _ in range(8)] for _ in range(8)] for share in shares]
        units = [[int(row == column) for column in range(8)] for row in range(8)]
        tables += [units, [[1] * 8] * 8, ring(8)[:7] + [[1] * 8]]
        for table in tables:
            self.assertEqual(packed(table), slow_packed(table))

    def test_of_unimodular_ones_both_have_as_many(self):
        seen = 0
        for table in [*ones_of(some_nets(60, 703)), *some_stretches(40, 704), *all_tables(3, 3, (0, 1))]:
            if is_unimodular(table):
                columns, rows = packed(table)
                self.assertEqual(len(columns), len(rows))
                seen += 1
        self.assertGreater(seen, 300)


class Bought(unittest.TestCase):
    def test_some(self):
        self.assertEqual(bought([[1]], [3]), ([0], [3]))
        self.assertEqual(bought([[0]], [3]), ([], [0]))
        self.assertEqual(bought([[1, 1]], [1, 2]), ([1], [2]))
        self.assertEqual(bought(worths=[1, 1], table=[[1, 1]]), ([0], [1]))
        self.assertEqual(bought(ring(3), [1, 1, 1]), ([0], [0, 1, 1]))
        self.assertEqual(bought(ring(3), [1, 1, 2]), ([2], [0, 1, 1]))
        self.assertEqual(bought([[1, 1, 0], [0, 1, 1]], [1, 2, 1]), ([0, 2], [1, 1]))
        self.assertEqual(bought([[1, 1, 0], [0, 1, 1]], [0, 0, 0]), ([], [0, 0]))
        self.assertEqual(bought([[1, 0], [1, 0]], [2, 3]), ([0], [0, 2]))
        self.assertEqual(bought([[1, 0, 1]], [0, 3, 0]), ([], [0]))

    def test_set_by_set(self):
        chance = Random(711)
        parted = 0
        for table in [
            *all_tables(2, 3, (0, 1)), *all_tables(3, 2, (0, 1)), *some_ones(150, 712, 4, 6), ring(3),
            ring(5),
        ]:
            wide = len(table[0])
            for worths in ([0] * wide, [3] * wide, [1] * wide, [chance.randint(0, 3) for _ in range(wide)]):
                told = bought(table, worths)
                self.assertEqual(told, slow_bought(table, worths))
                self.assertEqual([type(told), *map(type, told)], [tuple, list, list])
                worth = sum(worths[at] for at in told[0])
                self.assertLessEqual(worth, sum(told[1]))
                parted += worth < sum(told[1])
        self.assertGreater(parted, 8)

    def test_five_rows_and_eight_columns(self):
        chance = Random(713)
        for share in (0.2, 0.4, 0.6):
            table = [[int(chance.random() < share) for _ in range(8)] for _ in range(5)]
            for worths in ([0] * 8, [3] * 8, [chance.randint(0, 3) for _ in range(8)]):
                self.assertEqual(bought(table, worths), slow_bought(table, worths))

    def test_of_unimodular_ones_both_are_the_best_value(self):
        chance = Random(714)
        seen = 0
        for table in [*ones_of(some_nets(60, 715, 5, 6)), *some_stretches(60, 716, 5, 6)]:
            if is_unimodular(table):
                worths = [chance.randint(0, 3) for _ in table[0]]
                columns, copies = bought(table, worths)
                worth = sum(worths[at] for at in columns)
                self.assertEqual(worth, sum(copies))
                full = [at for at, ones in enumerate(column_sets(table)) if ones]
                if full:
                    rest = [[row[at] for at in full] for row in table]
                    told = best(rest, [1] * len(rest), [worths[at] for at in full])
                    self.assertEqual(told[:2], ("best", (worth, 1)))
                    seen += 1
        self.assertGreater(seen, 60)

    def test_the_worth_of_ones_is_as_many_as_are_packed(self):
        for table in some_ones(60, 717, 5, 7):
            columns, copies = bought(table, [1] * len(table[0]))
            packing, cover = packed(table)
            self.assertEqual((columns, sum(copies)), (packing, len(cover)))

    def test_the_refusals(self):
        table = [[1, 0, 1], [0, 1, 1]]
        for worths in [*wrong_lists([1, 0, 3]), [4, 0, 0], [0, -1, 0], [0, 0, LONG], [0, -LONG, 0]]:
            check_refused("worths", bought, table, worths)
            check_refused("worths", bought, worths=worths, table=table)
        for rows in (6, 7, 8):
            for entry in (0, 1):
                for worths in ([1, 1, 1], [0, 0, 0]):
                    self.assertEqual(raised(TooMany, bought, [[entry] * 3] * rows, worths).many, 5)
                for worths in (*NO_LISTS, [1, 1], [1, 1, 4], [1, 1, True]):
                    check_refused("worths", bought, [[entry] * 3] * rows, worths)


class Paired(unittest.TestCase):
    def check(self, table):
        told = paired(table)
        self.assertEqual((type(told), len(told)), (tuple, 2))
        spots, lines = told
        self.assertEqual([type(spots), type(lines), *map(type, lines)], [list, tuple, list, list])
        self.assertEqual({type(spot) for spot in spots} | {tuple}, {tuple})
        self.assertEqual({type(place) for spot in spots for place in spot} | {int}, {int})
        self.assertEqual(spots, sorted(spots))
        self.assertTrue(all(table[row][column] == 1 for row, column in spots))
        for places in zip(*spots):
            self.assertEqual(len(set(places)), len(spots))
        rows, columns = lines
        for places, many in ((rows, len(table)), (columns, len(table[0]))):
            self.assertEqual(places, sorted(set(places)))
            self.assertTrue(set(places) <= set(range(many)))
        for row, entries in enumerate(table):
            for column, entry in enumerate(entries):
                self.assertTrue(entry == 0 or row in rows or column in columns)
        # No two spots stand in one line: as many lines as spots are as few as can be, and the spots as many.
        self.assertEqual(len(spots), len(rows) + len(columns))
        return len(spots)

    def test_some(self):
        self.assertEqual(paired([[0]]), ([], ([], [])))
        self.assertEqual(self.check([[1]]), 1)
        self.assertEqual(paired([[0] * 8] * 8), ([], ([], [])))
        self.assertEqual(paired([[1, 1], [1, 0]])[0], [(0, 1), (1, 0)])
        self.assertEqual(paired(table=[[1, 1, 1]])[1], ([0], []))
        self.assertEqual(paired([[1], [1], [1]])[1], ([], [0]))
        self.assertEqual(self.check([[1] * 8] * 8), 8)
        self.assertEqual(self.check([[1, 1, 1], [0, 1, 0], [0, 1, 0]]), 2)

    def test_as_many_as_can_be(self):
        tables = [*all_tables(3, 3, (0, 1)), *all_tables(2, 4, (0, 1)), *all_tables(4, 2, (0, 1))]
        for table in [*tables, *some_ones(200, 721, 6, 6)]:
            self.assertEqual(self.check(table), slow_most_pairs(table))

    def test_pairs_that_have_to_be_led_on(self):
        for size in range(1, 9):
            # Each row but the last takes the column that the next one needs.
            steps = [[int(column in (row, row + 1)) for column in range(size)] for row in range(size)]
            self.assertEqual(self.check(steps), size)
            self.assertEqual(self.check(steps[::-1]), size)
            self.assertEqual(self.check([row[::-1] for row in steps]), size)
            self.assertEqual(paired(steps[:-1] + [[1] + [0] * (size - 1)])[0][-1], (size - 1, 0))
            corner = [[int(row + column < size) for column in range(size)] for row in range(size)]
            self.assertEqual(self.check(corner), size)
            self.assertEqual(self.check(corner[::-1]), size)

    def test_eight_rows_and_columns(self):
        chance = Random(722)
        for share in (0.1, 0.15, 0.2, 0.25, 0.3, 0.5, 0.9):
            for _ in range(20):
                self.check([[int(chance.random() < share) for _ in range(8)] for _ in range(8)])


class Crossing(unittest.TestCase):
    def test_some(self):
        self.assertEqual(crossing([[1]]), [[1], [1]])
        self.assertIsNone(crossing([[0]]))
        self.assertIsNone(crossing(table=[[0] * 7]))
        self.assertEqual(crossing(table=[[1, 1], [1, 0]]), [[1, 1, 0], [0, 0, 1], [1, 0, 1], [0, 1, 0]])
        self.assertEqual(crossing([[0, 1], [0, 0]]), [[1], [0], [0], [1]])

    def check(self, table):
        ones = [(row, column) for row, entries in enumerate(table) for column, entry in enumerate(entries) if entry]
        wanted = [[int(spot[0] == row) for spot in ones] for row in range(len(table))]
        wanted += [[int(spot[1] == column) for spot in ones] for column in range(len(table[0]))]
        told = crossing(table)
        if not ones:
            self.assertIsNone(told)
            return False
        self.assertEqual(told, wanted)
        self.assertEqual({sum(column) for column in zip(*told)}, {2})
        self.assertEqual(len({id(row) for row in told}), len(told))
        return ones

    def test_a_column_for_each_one(self):
        seen = 0
        for table in [*all_tables(2, 3, (0, 1)), *all_tables(3, 2, (0, 1)), *some_ones(300, 731, 6, 6)]:
            if len(table) + len(table[0]) <= 8 and sum(map(sum, table)) <= 8:
                ones = self.check(table)
                if ones:
                    self.assertTrue(is_unimodular(crossing(table)))
                    self.check_pairs(table, ones)
                    seen += 1
        self.assertGreater(seen, 100)
        self.assertTrue(is_sound(crossing([[1, 1, 1], [1, 1, 1], [1, 1, 0]])))

    def check_pairs(self, table, ones):
        """Make sure that the paired spots are a greatest packing of the crossing, and the lines a least cover."""
        spots, (rows, columns) = paired(table)
        packing, cover = packed(crossing(table))
        self.assertEqual(len(packing), len(spots))
        self.assertEqual(len(cover), len(rows) + len(columns))
        self.assertTrue(is_packing(crossing(table), [ones.index(spot) for spot in spots]))
        self.assertTrue(is_cover(crossing(table), rows + [len(table) + column for column in columns]))

    def test_more_than_eight_lines_or_ones(self):
        for rows in range(1, 9):
            for columns in range(1, 9):
                noughts = [[0] * columns for _ in range(rows)]
                ones = [[1] * columns for _ in range(rows)]
                if rows + columns > 8:
                    for table in (noughts, ones):
                        self.assertEqual(raised(TooMany, crossing, table).many, 8)
                        self.assertEqual(raised(TooMany, crossing, table=table).many, 8)
                else:
                    self.assertFalse(self.check(noughts))
                    if rows * columns > 8:
                        self.assertEqual(raised(TooMany, crossing, ones).many, 8)
                        left = rows * columns - 8
                        for row in range(rows):
                            for column in range(columns):
                                if left:
                                    ones[row][column] = 0
                                    left -= 1
                    self.assertEqual(len(self.check(ones)), min(8, rows * columns))


class Kept(unittest.TestCase):
    def test_what_is_handed_in_stays_and_what_is_told_is_new(self):
        table, worths = [[1, 1, 0], [0, 1, 1]], [1, 2, 1]
        for call, given in ((packed, (table,)), (bought, (table, worths)), (paired, (table,)), (crossing, (table,))):
            as_it_was = deepcopy(given)
            told = call(*given)
            again = deepcopy(told)
            lists = [*told, *(told[1] if call is paired else ())]
            for thing in lists:
                if isinstance(thing, list):
                    self.assertFalse(any(thing is other for other in (*table, table, worths)))
                    thing.append("spoilt")
            self.assertEqual(given, as_it_was)
            self.assertEqual(call(*given), again)

    def test_no_list_stands_twice_in_what_is_told(self):
        for call, given in ((packed, ([[0]],)), (bought, ([[0]], [0])), (paired, ([[0]],))):
            told = call(*given)
            lists = [thing for thing in (*told, *told[1]) if isinstance(thing, list)]
            self.assertEqual(len({id(thing) for thing in lists}), len(lists))

    def test_what_is_changed_and_changed_back(self):
        table, worths = ring(3), [1, 1, 2]
        wanted = packed(table), bought(table, worths), paired(table), crossing(table)
        table[0][0] = 0
        self.assertEqual(packed(table), slow_packed(table))
        self.assertEqual(bought(table, worths), slow_bought(table, worths))
        self.assertEqual(len(paired(table)[0]), 3)
        self.assertEqual(len(crossing(table)[0]), 5)
        table[0][0] = -1
        for call in (packed, paired, crossing):
            raised(NotPlain, call, table)
        table[0][0] = 1
        worths[2] = 0
        self.assertEqual(bought(table, worths), slow_bought(table, worths))
        worths[2] = 2
        self.assertEqual((packed(table), bought(table, worths), paired(table), crossing(table)), wanted)


if __name__ == "__main__":
    unittest.main()
