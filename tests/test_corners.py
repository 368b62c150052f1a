"""Points [2], [4] and [24] to [26]: corners, and bounds and gains whose only best is broken."""

import unittest
from copy import deepcopy
from fractions import Fraction
from itertools import combinations
from math import ceil, floor
from random import Random

from samples import (
    NETLIKE, NO_TABLES, Odd, all_tables, amid_noughts, pairs, picks, raised, ring, slow_bad_square, some_nets,
    some_tables, some_wholes, sound_tables,
)
from signbook.errors import BadTable, TooMany
from signbook.programs import best, corners, is_answer, unwhole, within
from signbook.signs import is_unimodular
from signbook.squares import bad_square
from tasks import LONG, check_refused, total, wrong_lists

RING = ring(3)


def solved(rows, totals):
    """Tell the only values by which the rows come to the totals, or None."""
    many = len(rows)
    full = [[Fraction(entry) for entry in row] + [Fraction(value)] for row, value in zip(rows, totals)]
    for at in range(many):
        lead = next((row for row in range(at, many) if full[row][at] != 0), None)
        if lead is None:
            return None
        full[at], full[lead] = full[lead], full[at]
        full[at] = [entry / full[at][at] for entry in full[at]]
        for row in range(many):
            if row != at:
                full[row] = [one - full[row][at] * other for one, other in zip(full[row], full[at])]
    return [row[-1] for row in full]


def slow_corners(table, bounds):
    """Tell all places where a set of bounds, those at nought among them, is met, and no bound is overstepped."""
    wide = len(table[0])
    units = [[int(at == column) for at in range(wide)] for column in range(wide)]
    limits = [*zip(table, bounds), *((unit, 0) for unit in units)]
    found = set()
    for met in combinations(limits, wide):
        xs = solved([row for row, _ in met], [bound for _, bound in met])
        if xs is not None and min(xs) >= 0 and all(total(row, xs) <= bound for row, bound in zip(table, bounds)):
            found.add(tuple(xs))
    return [pairs(xs) for xs in sorted(found)]


def low_tables(many, low, high, seed):
    """Tell tables of up to six rows and four columns, with some bounds."""
    chance = Random(seed)
    for table in some_tables(many, low, high, seed):
        table = [row[:4] for row in table[:6]]
        yield table, some_wholes(len(table), chance, 3)


class Corners(unittest.TestCase):
    def test_some(self):
        self.assertEqual(corners([[1]], [3]), [[(0, 1)], [(3, 1)]])
        self.assertEqual(corners([[1]], [0]), [[(0, 1)]])
        self.assertEqual(corners([[0]], [0]), [[(0, 1)]])
        self.assertEqual(corners([[-1]], [-3]), [[(3, 1)]])
        self.assertEqual(corners(bounds=[3], table=[[2]]), [[(0, 1)], [(3, 2)]])
        self.assertEqual(corners([[1, 1]], [1]), [[(0, 1), (0, 1)], [(0, 1), (1, 1)], [(1, 1), (0, 1)]])
        self.assertEqual(corners([[1, -1]], [1]), [[(0, 1), (0, 1)], [(1, 1), (0, 1)]])

    def test_where_nothing_is_within(self):
        self.assertEqual(corners([[1]], [-1]), [])
        self.assertEqual(corners([[0, 0]], [-1]), [])
        self.assertEqual(corners([[1, 0], [-1, 0]], [1, -2]), [])

    def test_sorted_by_the_numbers(self):
        self.assertEqual(corners([[2], [-3]], [3, -1]), [[(1, 3)], [(3, 2)]])
        self.assertEqual(corners([[3], [-2]], [10, -5]), [[(5, 2)], [(10, 3)]])
        told = corners([[2, 0, 0], [0, 3, 0], [0, 0, 1]], [1, 1, 2])
        halves, thirds, twos = [(0, 1), (1, 2)], [(0, 1), (1, 3)], [(0, 1), (2, 1)]
        self.assertEqual(told, [[one, other, third] for one in halves for other in thirds for third in twos])

    def test_just_those_found_by_all_sets_of_bounds_that_are_met(self):
        seen = {True: 0, False: 0}
        for low, high in ((-1, 1), (0, 1), (-3, 3), (-2, 5)):
            for table, bounds in low_tables(25, low, high, 101):
                for limits in (bounds, [abs(bound) for bound in bounds], [1] * len(bounds), [0] * len(bounds)):
                    wanted = slow_corners(table, limits)
                    self.assertEqual(corners(table, limits), wanted)
                    seen[bool(wanted)] += 1
        self.assertGreater(min(seen.values()), 20)

    def test_of_all_small_tables(self):
        for table in all_tables(2, 2, (-1, 0, 1, 2)):
            for bounds in ([1, 1], [0, 2], [-1, 3]):
                self.assertEqual(corners(table, bounds), slow_corners(table, bounds))

    def test_of_six_rows_and_four_columns(self):
        chance = Random(102)
        for low, high in ((-1, 1), (0, 1), (1, 9), (1, LONG)):
            for _ in range(4):
                table = [[chance.randint(low, high) for _ in range(4)] for _ in range(6)]
                bounds = [chance.randint(0, 9 * high) for _ in range(6)]
                self.assertEqual(corners(table, bounds), slow_corners(table, bounds))

    def test_where_several_sets_of_bounds_meet_in_one(self):
        table = [[1, 1], [1, 0], [0, 1], [1, 1], [2, 1]]
        self.assertEqual(corners(table, [1, 1, 1, 1, 2]), [[(0, 1), (0, 1)], [(0, 1), (1, 1)], [(1, 1), (0, 1)]])
        self.assertEqual(corners([[1, 1, 1, 1]] * 6, [0] * 6), [[(0, 1)] * 4])

    def test_there_is_one_just_where_something_is_within_and_some_corner_is_best(self):
        words = {"best": 0, "open": 0, "none": 0}
        chance = Random(103)
        for table, bounds in [*low_tables(120, -1, 1, 104), *low_tables(60, 0, 2, 105)]:
            gains = some_wholes(len(table[0]), chance, 3)
            told, answer = corners(table, bounds), best(table, bounds, gains)
            self.assertEqual(told == [], answer[0] == "none")
            self.assertTrue(all(within(table, bounds, x) for x in told))
            if answer[0] == "best":
                worths = [total(gains, [Fraction(*value) for value in x]) for x in told]
                self.assertEqual(max(worths), Fraction(*answer[1]))
            words[answer[0]] += 1
        self.assertGreater(min(words.values()), 20)

    def test_of_a_unimodular_table_each_is_whole_and_of_another_one_some_is_not(self):
        chance = Random(106)
        for table in sound_tables(120, 107):
            table = [row[:4] for row in table[:6]]
            for bounds in (some_wholes(len(table), chance, 4), [chance.randint(0, 4) for _ in table]):
                for x in corners(table, bounds):
                    self.assertTrue(all(bottom == 1 for _, bottom in x))
        for table, _ in low_tables(80, -1, 1, 108):
            if not is_unimodular(table):
                bounds, _, x = unwhole(table)
                self.assertIn(x, corners(table, bounds))

    def test_the_refusals_in_their_order(self):
        for thing in NO_TABLES:
            for bounds in ([1], None, Odd()):
                raised(BadTable, corners, thing, bounds)
                raised(BadTable, corners, bounds=bounds, table=thing)
        for rows, columns in ((2, 2), (7, 4), (6, 5), (8, 8)):
            table = [[1] * columns for _ in range(rows)]
            for wrong in wrong_lists([1] * rows):
                check_refused("bounds", corners, table, wrong)
                check_refused("bounds", corners, bounds=wrong, table=table)

    def test_too_many(self):
        for rows in range(1, 9):
            for columns in range(1, 9):
                table, bounds = [[0] * columns for _ in range(rows)], [0] * rows
                if columns > 4:
                    self.assertEqual(raised(TooMany, corners, table, bounds).many, 4)
                elif rows > 6:
                    self.assertEqual(raised(TooMany, corners, table, bounds).many, 6)
                else:
                    self.assertEqual(corners(table, bounds), [[(0, 1)] * columns])


class Unwhole(unittest.TestCase):
    def pointed(self, table):
        """Tell the bounds, gains and x, made word by word as point [25] says."""
        bad = slow_bad_square(table)
        if bad is None:
            return None
        rows, columns, _ = bad
        square = [[table[row][column] for column in columns] for row in rows]
        for at in range(len(rows)):
            u = solved(square, [int(row == at) for row in range(len(rows))])
            if any(value.denominator > 1 for value in u):
                break
        x = [Fraction(0)] * len(table[0])
        for column, value in zip(columns, u):
            x[column] = value - floor(value)
        bounds = [ceil(total(row, x)) for row in table]
        gains = [
            sum(table[row][column] for row in rows) - (column not in columns) for column in range(len(table[0]))
        ]
        return bounds, gains, pairs(x)

    def some_broken(self):
        yield from ([[2]], [[-3]], [[0, 0], [0, 5]], [[LONG, 1], [1, 1]], [[1, 1], [-1, 1]], [[1, 1], [1, -1]], RING)
        yield from all_tables(2, 3, (-1, 0, 1))
        yield from some_tables(60, -1, 1, 109)
        yield from some_tables(20, -7, 7, 110)
        chance = Random(111)
        for size in range(3, 9):
            up, across = chance.choice(picks(8, size)), chance.choice(picks(8, size))
            yield amid_noughts(ring(size), up, across)
            table = next(some_nets(1, 112 + size))
            for row in up:
                for column in across:
                    table[row][column] = ring(size)[up.index(row)][across.index(column)]
            yield table

    def test_some(self):
        self.assertEqual(unwhole([[2]]), ([1], [2], [(1, 2)]))
        self.assertEqual(unwhole([[-3]]), ([-2], [-3], [(2, 3)]))
        self.assertEqual(unwhole(table=[[1, 0, 3]]), ([1], [0, -1, 3], [(0, 1), (0, 1), (1, 3)]))
        self.assertEqual(unwhole(RING), ([1, 1, 1], [2, 2, 2], [(1, 2), (1, 2), (1, 2)]))
        self.assertEqual(unwhole([[1, 1], [-1, 1]]), ([1, 0], [0, 2], [(1, 2), (1, 2)]))

    def test_none_of_unimodular_tables(self):
        for table in [NETLIKE, [[0]], *some_nets(6, 113), *sound_tables(60, 114)]:
            self.assertIsNone(unwhole(table))

    def test_as_the_point_says(self):
        broken = 0
        for table in self.some_broken():
            wanted = self.pointed(table)
            told = unwhole(table)
            self.assertEqual(told, wanted)
            self.assertIs(told is None, is_unimodular(table))
            if told is not None:
                self.assertEqual([type(told), *map(type, told)], [tuple, list, list, list])
                broken += 1
        self.assertGreater(broken, 100)

    def test_its_x_is_best_and_not_whole(self):
        for table in self.some_broken():
            told = unwhole(table)
            if told is not None:
                bounds, gains, x = told
                rows = bad_square(table)[0]
                self.assertTrue(any(bottom > 1 for _, bottom in x))
                value = sum(bounds[row] for row in rows)
                prices = [(int(row in rows), 1) for row in range(len(table))]
                self.assertTrue(is_answer(table, bounds, gains, ("best", (value, 1), x, prices)))
                self.assertEqual(best(table, bounds, gains)[1:3], ((value, 1), x))

    def test_no_other_x_is_as_good(self):
        for table in self.some_broken():
            told = unwhole(table)
            if told is not None and len(table) < 8:
                bounds, gains, x = told
                value = sum(bounds[row] for row in bad_square(table)[0])
                # Where a last row asks for no less than the value, each place has no room up or down.
                full = table + [[-gain for gain in gains]]
                for at, (top, bottom) in enumerate(x):
                    unit = [int(column == at) for column in range(len(gains))]
                    self.assertEqual(best(full, bounds + [-value], unit)[1], (top, bottom))
                    down = best(full, bounds + [-value], [-number for number in unit])
                    self.assertEqual(down[1], (-top, bottom))

    def test_what_is_no_table_is_refused(self):
        for thing in NO_TABLES:
            raised(BadTable, unwhole, thing)
            raised(BadTable, unwhole, table=thing)


class Kept(unittest.TestCase):
    def test_what_is_handed_in_stays_and_what_is_told_is_new(self):
        table, bounds = [[1, 1, 0], [0, 1, 1], [1, 0, 1]], [1, 1, 1]
        as_it_was = deepcopy((table, bounds))
        for call, given in ((corners, (table, bounds)), (unwhole, (table,))):
            told = call(*given)
            again = deepcopy(told)
            for part in told:
                part[0] = "spoilt"
            self.assertEqual(call(*given), again)
            self.assertEqual((table, bounds), as_it_was)

    def test_what_is_changed_and_changed_back(self):
        table, bounds = deepcopy(RING), [1, 1, 1]
        first = unwhole(table), corners(table, bounds)
        table[0][0] = 0
        self.assertIsNone(unwhole(table))
        self.assertEqual(corners(table, bounds), slow_corners(table, bounds))
        table[0][0] = 1
        bounds[0] = 2
        self.assertEqual(corners(table, bounds), slow_corners(table, bounds))
        self.assertNotEqual(corners(table, bounds), first[1])
        bounds[0] = 1
        self.assertEqual((unwhole(table), corners(table, bounds)), first)


if __name__ == "__main__":
    unittest.main()
