"""Points [2], [4], [27] and [28]: what is rounded within every row's sum, and halves that nothing rounds."""

import unittest
from copy import deepcopy
from fractions import Fraction
from itertools import product as choices
from math import ceil, floor
from random import Random

from samples import (
    NETLIKE, NO_FRACTIONS, NO_LISTS, NO_TABLES, Odd, all_tables, amid_noughts, pairs, picks, raised, ring,
    slow_bad_square, some_fractions, some_nets, some_stretches, some_tables, sound_tables,
)
from signbook.errors import BadTable
from signbook.rounding import rounded, unrounded
from signbook.signs import is_unimodular
from tasks import LONG, check_refused, total

RING = ring(3)
HALF = (1, 2)


def slow_rounded(table, xs):
    """Tell the first of all lists of floors and ceilings, sorted, that rounds each row's sum, or None."""
    values = [Fraction(*x) for x in xs]
    sums = [total(row, values) for row in table]
    for whole in sorted(choices(*[(floor(value), ceil(value)) for value in values])):
        if all(floor(wanted) <= total(row, whole) <= ceil(wanted) for row, wanted in zip(table, sums)):
            return list(whole)
    return None


class Rounded(unittest.TestCase):
    def test_some(self):
        self.assertEqual(rounded([[1]], [HALF]), [0])
        self.assertEqual(rounded([[1, 1]], [HALF, HALF]), [0, 1])
        self.assertEqual(rounded([[1, 1], [0, 1]], [HALF, (1, 3)]), [0, 0])
        self.assertEqual(rounded([[1, 1], [1, -1]], [(1, 3), (2, 3)]), [0, 1])
        self.assertEqual(rounded([[1, 1]], [(2, 3), (2, 3)]), [0, 1])
        self.assertEqual(rounded([[1, 1]], [(5, 2), (-5, 2)]), [2, -2])
        self.assertEqual(rounded([[1, -1]], [(5, 2), (5, 2)]), [2, 2])
        self.assertEqual(rounded(xs=[(3, 2)], table=[[2]]), None)
        self.assertEqual(rounded([[2]], [(3, 4)]), [1])
        self.assertIsNone(rounded(RING, [HALF] * 3))

    def test_whole_ones_stay(self):
        chance = Random(121)
        for table in some_tables(60, -9, 9, 122):
            xs = [chance.choice((0, 1, -1, 7, -LONG, LONG)) for _ in table[0]]
            self.assertEqual(rounded(table, [(x, 1) for x in xs]), xs)

    def test_of_rows_of_noughts_all_go_down(self):
        xs = some_fractions(8, 123)
        self.assertEqual(rounded([[0] * 8], xs), [top // bottom for top, bottom in xs])

    def test_the_least_of_all_lists(self):
        told = {True: 0, False: 0}
        for low, high in ((-1, 1), (0, 1), (-3, 3)):
            for at, table in enumerate(some_tables(120, low, high, 124)):
                table = [row[:5] for row in table]
                for xs in (some_fractions(len(table[0]), at), [HALF] * len(table[0]), [(-3, 2)] * len(table[0])):
                    wanted = slow_rounded(table, xs)
                    self.assertEqual(rounded(table, xs), wanted)
                    told[wanted is not None] += 1
        self.assertGreater(min(told.values()), 150)

    def test_all_small_tables_and_lists(self):
        values = pairs([Fraction(top, 6) for top in (-9, -4, -2, 0, 3, 4, 6)])
        for table in all_tables(2, 2, (-1, 0, 1, 2)):
            for xs in choices(values, repeat=2):
                self.assertEqual(rounded(table, list(xs)), slow_rounded(table, xs))

    def test_of_great_fractions_and_entries(self):
        chance = Random(125)
        for table in [*some_tables(30, -1, 1, 126), *some_tables(20, -LONG, LONG, 127)]:
            table = [row[:4] for row in table]
            xs = pairs([Fraction(chance.randint(-LONG, LONG), chance.randint(1, 10 ** 19)) for _ in table[0]])
            self.assertEqual(rounded(table, xs), slow_rounded(table, xs))

    def test_of_a_unimodular_table_there_always_is_one(self):
        chance = Random(128)
        for at, table in enumerate(sound_tables(80, 129)):
            xs = pairs([Fraction(chance.randint(-9, 9), chance.randint(1, 5)) for _ in table[0]])
            for values in (xs, [HALF] * len(xs), some_fractions(len(xs), at)):
                wanted = slow_rounded(table, values)
                self.assertIsNotNone(wanted)
                self.assertEqual(rounded(table, values), wanted)

    def test_eight_rows_and_columns(self):
        for at, table in enumerate([*some_nets(6, 130), *some_stretches(6, 131), [[1] * 8] * 8]):
            for xs in ([HALF] * 8, some_fractions(8, at), [(-5, 3)] * 8):
                self.assertEqual(rounded(table, xs), slow_rounded(table, xs))

    def test_both_ends_are_included(self):
        self.assertEqual(rounded([[1, 1, 1]], [(1, 3)] * 3), [0, 0, 1])
        self.assertEqual(rounded([[1, 1, 1]], [(1, 4)] * 3), [0, 0, 0])
        self.assertEqual(rounded([[1, 1, 1], [-1, 0, 0], [0, -1, 0]], [(3, 4)] * 3), [0, 1, 1])
        self.assertEqual(rounded([[2, 1]], [(3, 4), (3, 4)]), [1, 0])

    def test_the_refusals(self):
        table = [[1, 0, 1], [0, 0, 0]]
        right = [(1, 2), (0, 1), (-3, 1)]
        for thing in NO_TABLES:
            for xs in (right, None, Odd()):
                raised(BadTable, rounded, thing, xs)
                raised(BadTable, rounded, xs=xs, table=thing)
        wrong = [*NO_LISTS, [], right[:2], right + [(0, 1)], tuple(right), {0: right}, [right], [0, 1, 2]]
        wrong += [right[:at] + [thing] + right[at + 1:] for at in range(3) for thing in NO_FRACTIONS]
        for xs in wrong:
            check_refused("xs", rounded, table, xs)
            check_refused("xs", rounded, xs=xs, table=table)


class Unrounded(unittest.TestCase):
    def test_some(self):
        self.assertEqual(unrounded([[2]]), [HALF])
        self.assertEqual(unrounded([[1, -3, 2]]), [(0, 1), HALF, (0, 1)])
        self.assertEqual(unrounded(table=RING), [HALF] * 3)
        self.assertEqual(unrounded([[0, 1, 1], [0, 0, 0], [0, 1, -1]]), [(0, 1), HALF, HALF])

    def test_none_of_unimodular_tables(self):
        for table in [NETLIKE, [[0]], *some_nets(6, 132), *sound_tables(60, 133)]:
            self.assertIsNone(unrounded(table))

    def test_the_halves_at_the_columns_of_the_least_bad_square(self):
        chance = Random(134)
        tables = [*all_tables(2, 2, (-1, 0, 1, 3)), *all_tables(3, 3, (0, 1)), *some_tables(60, -1, 1, 135)]
        tables += some_tables(20, -LONG, LONG, 136)
        for size in range(3, 9):
            tables.append(amid_noughts(ring(size), chance.choice(picks(8, size)), chance.choice(picks(8, size))))
        broken = 0
        for table in tables:
            bad, told = slow_bad_square(table), unrounded(table)
            if bad is None:
                self.assertIsNone(told)
                self.assertTrue(is_unimodular(table))
            else:
                self.assertEqual(told, [HALF if at in bad[1] else (0, 1) for at in range(len(table[0]))])
                self.assertIsNone(rounded(table, told))
                self.assertIsNone(slow_rounded(table, told))
                broken += 1
        self.assertGreater(broken, 150)

    def test_what_is_no_table_is_refused(self):
        for thing in NO_TABLES:
            raised(BadTable, unrounded, thing)
            raised(BadTable, unrounded, table=thing)


class Kept(unittest.TestCase):
    def test_what_is_handed_in_stays_and_what_is_told_is_new(self):
        table, xs = deepcopy(RING), [(2, 3), (1, 3), (5, 1)]
        for call, given in ((rounded, (table, xs)), (unrounded, (table,))):
            as_it_was = deepcopy(given)
            told = call(*given)
            again = deepcopy(told)
            told[0] = "spoilt"
            told.append("spoilt")
            self.assertEqual(call(*given), again)
            self.assertEqual(given, as_it_was)

    def test_what_is_changed_and_changed_back(self):
        table, xs = deepcopy(RING), [HALF] * 3
        halves = unrounded(table)
        table[0][0] = 0
        self.assertEqual(rounded(table, xs), [0, 0, 1])
        self.assertIsNone(unrounded(table))
        table[0][0] = 1
        self.assertIsNone(rounded(table, xs))
        self.assertEqual(unrounded(table), halves)
        xs[2] = (0, 1)
        self.assertEqual(rounded(table, xs), slow_rounded(table, xs))
        xs[2] = HALF
        self.assertIsNone(rounded(table, xs))


if __name__ == "__main__":
    unittest.main()
