"""Points [2], [4] and [30] to [32]: signings of the columns, and lists of whole numbers halved."""

import unittest
from copy import deepcopy
from itertools import product as choices
from random import Random

from samples import (
    NETLIKE, NO_LISTS, NO_TABLES, Odd, all_tables, raised, ring, some_nets, some_stretches, some_tables, some_wholes,
    sound_tables,
)
from signbook.errors import BadTable
from signbook.parting import halved, spread
from signbook.rounding import rounded
from tasks import LONG, check_refused, total, wrong_lists


def out(table, signs):
    """Tell how far a signing is out."""
    return max(abs(total(row, signs)) for row in table)


def slow_spread(table):
    """Tell the least that any signing is out, and the first such signing, by all of them."""
    signings = [list(signs) for signs in choices((1, -1), repeat=len(table[0]))]
    far = min(out(table, signs) for signs in signings)
    return (far, next(signs for signs in signings if out(table, signs) == far))


def slow_halved(table, xs):
    """Tell the least list, and what it leaves of the xs, that are alike but for 1 everywhere, or None."""
    ways = [[half for half in range(x // 2 - 1, x // 2 + 3) if abs(half - (x - half)) <= 1] for x in xs]
    for one in sorted(choices(*ways)):
        other = [x - half for x, half in zip(xs, one)]
        if all(abs(total(row, one) - total(row, other)) <= 1 for row in table):
            return (list(one), other)
    return None


class Spread(unittest.TestCase):
    def test_some(self):
        self.assertEqual(spread([[0]]), (0, [1]))
        self.assertEqual(spread([[-3]]), (3, [1]))
        self.assertEqual(spread([[1, 1]]), (0, [1, -1]))
        self.assertEqual(spread([[1, -1]]), (0, [1, 1]))
        self.assertEqual(spread(table=[[1, 1, 1]]), (1, [1, 1, -1]))
        self.assertEqual(spread(ring(3)), (2, [1, 1, 1]))
        self.assertEqual(spread([[3, 2, 1]]), (0, [1, -1, -1]))
        self.assertEqual(spread([[0] * 8] * 8), (0, [1] * 8))

    def test_the_least_of_all_signings(self):
        tables = [*all_tables(2, 3, (-1, 0, 1)), *all_tables(3, 2, (0, 1, 2)), *some_tables(80, -1, 1, 211)]
        tables += [*some_tables(40, -9, 9, 212), *some_tables(30, -LONG, LONG, 213), *some_tables(30, 0, 1, 214)]
        for table in tables:
            far, signs = spread(table)
            self.assertEqual((far, signs), slow_spread(table))
            self.assertEqual({type(number) for number in [far, *signs]}, {int})
            self.assertIs(type(signs), list)

    def test_eight_rows_and_columns(self):
        chance = Random(215)
        for low, high in ((-1, 1), (0, 1), (-LONG, LONG)):
            for _ in range(6):
                table = [[chance.randint(low, high) for _ in range(8)] for _ in range(8)]
                self.assertEqual(spread(table), slow_spread(table))

    def test_of_unimodular_tables(self):
        seen = {0: 0, 1: 0}
        for table in [*sound_tables(90, 216), *some_nets(10, 217), *some_stretches(10, 218), NETLIKE]:
            far, _ = spread(table)
            self.assertEqual(far, 0 if all(sum(row) % 2 == 0 for row in table) else 1)
            seen[far] += 1
        self.assertGreater(min(seen.values()), 10)

    def test_what_is_no_table_is_refused(self):
        for thing in NO_TABLES:
            raised(BadTable, spread, thing)
            raised(BadTable, spread, table=thing)


class Halved(unittest.TestCase):
    def test_some(self):
        self.assertEqual(halved([[1]], [5]), ([2], [3]))
        self.assertEqual(halved([[1]], [-5]), ([-3], [-2]))
        self.assertEqual(halved([[1, 1]], [3, 5]), ([1, 3], [2, 2]))
        self.assertEqual(halved([[1, -1]], [3, 5]), ([1, 2], [2, 3]))
        self.assertEqual(halved([[1, 1], [1, -1]], [1, 2]), ([0, 1], [1, 1]))
        self.assertEqual(halved(xs=[0, 4], table=[[7, -7]]), ([0, 2], [0, 2]))
        self.assertIsNone(halved([[2]], [1]))
        self.assertEqual(halved([[2]], [2]), ([1], [1]))
        self.assertIsNone(halved(ring(3), [1, 1, 1]))
        self.assertEqual(halved(ring(3), [1, 1, 2]), ([0, 1, 1], [1, 0, 1]))
        self.assertEqual(halved([[3, 2]], [1, 1]), ([0, 1], [1, 0]))

    def test_the_least_of_all_lists(self):
        found = {True: 0, False: 0}
        chance = Random(221)
        tables = [*all_tables(2, 2, (-1, 0, 1, 2)), *all_tables(3, 3, (0, 1)), *some_tables(80, -1, 1, 222)]
        tables += [*some_tables(60, -3, 3, 223), *some_tables(20, -LONG, LONG, 224), ring(5), ring(8)]
        for table in tables:
            wide = len(table[0])
            for xs in ([1] * wide, some_wholes(wide, chance, 9), some_wholes(wide, chance, LONG)):
                wanted = slow_halved(table, xs)
                told = halved(table, xs)
                self.assertEqual(told, wanted)
                found[told is not None] += 1
                if told is not None:
                    self.assertEqual([type(told), *map(type, told)], [tuple, list, list])
                    self.assertEqual([a + b for a, b in zip(*told)], xs)
        self.assertGreater(min(found.values()), 150)

    def test_even_numbers_are_halved(self):
        chance = Random(225)
        for table in some_tables(40, -LONG, LONG, 226):
            half = some_wholes(len(table[0]), chance, LONG // 2)
            self.assertEqual(halved(table, [2 * x for x in half]), (half, half))

    def test_of_a_unimodular_table_there_always_is_one(self):
        chance = Random(227)
        for table in [*sound_tables(80, 228), *some_nets(5, 229), *some_stretches(5, 230)]:
            wide = len(table[0])
            for xs in ([1] * wide, [-1] * wide, some_wholes(wide, chance, 5), some_wholes(wide, chance, LONG)):
                told = halved(table, xs)
                self.assertIsNotNone(told)
                self.assertEqual(told, slow_halved(table, xs))

    def test_places_with_odd_numbers_are_signed_as_their_columns(self):
        chance = Random(231)
        for table in sound_tables(60, 232):
            xs = some_wholes(len(table[0]), chance, 9)
            odd = [at for at, x in enumerate(xs) if x % 2]
            if odd:
                _, signs = spread([[row[at] for at in odd] for row in table])
                one, other = halved(table, xs)
                # One less than half stands for the first sign here: the least list has 1 of spread as -1.
                self.assertEqual([other[at] - one[at] for at in odd], signs)

    def test_the_refusals(self):
        table = [[1, 0, 1], [0, 0, 0]]
        for thing in NO_TABLES:
            for xs in ([1, 2, 3], None, Odd()):
                raised(BadTable, halved, thing, xs)
                raised(BadTable, halved, xs=xs, table=thing)
        for xs in [*NO_LISTS, *wrong_lists([1, -2, 3]), [(1, 2), 0, 0], [[1], [2], [3]]]:
            check_refused("xs", halved, table, xs)
            check_refused("xs", halved, xs=xs, table=table)


class Parts(unittest.TestCase):
    def test_four_and_eight_parts_differ_by_one_at_most(self):
        chance = Random(241)
        for table in [*sound_tables(40, 242), *some_nets(5, 243)]:
            for most in (9, LONG):
                parts = [some_wholes(len(table[0]), chance, most)]
                whole = parts[0]
                for many in (2, 4, 8):
                    parts = [half for part in parts for half in halved(table, part)]
                    self.assertEqual(len(parts), many)
                    self.assertEqual([sum(numbers) for numbers in zip(*parts)], whole)
                    for numbers in zip(*parts):
                        self.assertLessEqual(max(numbers) - min(numbers), 1)

    def test_the_quarters_round_within_the_rows_quarters(self):
        chance = Random(244)
        for table in sound_tables(60, 245):
            xs = some_wholes(len(table[0]), chance, 30)
            quarters = [self.fraction(x) for x in xs]
            told = rounded(table, quarters)
            self.assertIsNotNone(told)
            for x, number in zip(xs, told):
                self.assertIn(number, (x // 4, -(-x // 4)))
            for row in table:
                self.assertLess(abs(4 * total(row, told) - total(row, xs)), 4)
            parts = [half for part in halved(table, xs) for half in halved(table, part)]
            for part in parts:
                for x, number in zip(xs, part):
                    self.assertIn(number, (x // 4, -(-x // 4)))

    def fraction(self, x):
        by = 4 if x % 2 else 2 if x % 4 else 1
        return (x * by // 4, by)


class Kept(unittest.TestCase):
    def test_what_is_handed_in_stays_and_what_is_told_is_new(self):
        table, xs = [[1, 1, 0], [0, 1, 1]], [2, 4, 6]
        for call, given in ((spread, (table,)), (halved, (table, xs))):
            as_it_was = deepcopy(given)
            told = call(*given)
            again = deepcopy(told)
            for thing in told:
                if isinstance(thing, list):
                    thing[0] = "spoilt"
                    thing.append("spoilt")
            self.assertEqual(call(*given), again)
            self.assertEqual(given, as_it_was)

    def test_two_halves_that_are_alike_are_two_lists(self):
        one, other = halved([[1, 1]], [2, 4])
        self.assertEqual(one, other)
        self.assertIsNot(one, other)

    def test_what_is_changed_and_changed_back(self):
        table, xs = ring(3), [1, 1, 1]
        table[0][0] = 0
        self.assertEqual(spread(table), slow_spread(table))
        self.assertEqual(halved(table, xs), slow_halved(table, xs))
        table[0][0] = 1
        self.assertEqual(spread(table), (2, [1, 1, 1]))
        self.assertIsNone(halved(table, xs))
        xs[0] = 2
        self.assertEqual(halved(table, xs), slow_halved(table, xs))
        xs[0] = 1
        self.assertIsNone(halved(table, xs))


if __name__ == "__main__":
    unittest.main()
