"""Points [2] to [4], [36] to [38]: orders of the columns in which each row's ones stand together."""

import unittest
from copy import deepcopy
from itertools import permutations
from random import Random

from samples import NO_LISTS, NO_PLACES, NO_TABLES, Odd, all_tables, is_sound, raised, ring, some_stretches, some_tables
from signbook.errors import BadTable, NotPlain, TooMany
from signbook.nets import as_net, is_net, net_table
from signbook.signs import is_unimodular
from signbook.standing import is_together, together
from signbook.tables import turned
from tasks import LONG

FORK = [[1, 1, 0, 0], [1, 0, 1, 0], [1, 0, 0, 1]]
OTHERS = (-1, 2, -2, LONG, -LONG)


def stands(table, order):
    """Tell whether no row has a nought between two ones in an order."""
    return all("0" not in "".join(str(row[at]) for at in order).strip("0") for row in table)


def slow_together(table):
    """Tell the first of all orders that stand, sorted, or None."""
    orders = sorted(permutations(range(len(table[0]))))
    return next((list(order) for order in orders if stands(table, order)), None)


def mixed(tables, seed):
    """Tell the tables with their columns in other orders, the same ones each time."""
    chance = Random(seed)
    for table in tables:
        columns = turned(table)
        chance.shuffle(columns)
        yield turned(columns)


def with_entry(table, row, column, entry):
    """Tell the table with an entry put otherwise."""
    told = deepcopy(table)
    told[row][column] = entry
    return told


class Together(unittest.TestCase):
    def test_some(self):
        self.assertEqual(together([[1]]), [0])
        self.assertEqual(together([[0]]), [0])
        self.assertEqual(together([[1, 0, 1]]), [0, 2, 1])
        self.assertEqual(together([[1, 0, 1], [1, 1, 0]]), [1, 0, 2])
        self.assertEqual(together(table=[[0, 0, 0, 0, 0, 0, 0]] * 8), [0, 1, 2, 3, 4, 5, 6])
        self.assertEqual(together([[1, 1, 1, 1, 1, 1, 0]]), [0, 1, 2, 3, 4, 5, 6])
        self.assertIsNone(together(FORK))
        self.assertIsNone(together(ring(3)))
        self.assertIsNone(together(turned(FORK)[:1] + ring(3)))

    def test_the_least_of_all_orders(self):
        found = {True: 0, False: 0}
        tables = [*all_tables(3, 3, (0, 1)), *all_tables(2, 4, (0, 1)), *all_tables(4, 3, (0, 1))]
        tables += [[row[:6] for row in table] for table in some_tables(80, 0, 1, 401)]
        tables += [*mixed(some_stretches(40, 402, 5, 6), 403), *mixed(some_stretches(40, 404, 8, 5), 405)]
        for table in tables:
            wanted = slow_together(table)
            self.assertEqual(together(table), wanted)
            found[wanted is not None] += 1
        self.assertGreater(min(found.values()), 60)

    def test_seven_columns_in_good_time(self):
        told = 0
        for table in [*mixed(some_stretches(12, 406, 8, 7), 407), ring(7), ring(7) + [[1] * 7]]:
            self.assertEqual(together(table), slow_together(table))
            told += together(table) is not None
        self.assertEqual(told, 12)
        for at in range(7):
            # The last order of all but a few: the first columns bar one another.
            pairs = [[int(column in (6, other)) for column in range(7)] for other in (at, (at + 1) % 7, (at + 2) % 7)]
            self.assertEqual(together(pairs), slow_together(pairs))

    def test_the_told_order(self):
        for table in mixed(some_stretches(60, 408, 8, 7), 409):
            order = together(table)
            self.assertIs(type(order), list)
            self.assertEqual({type(column) for column in order}, {int})
            self.assertTrue(is_together(table, order))

    def test_the_refusals(self):
        for thing in NO_TABLES:
            raised(BadTable, together, thing)
            raised(BadTable, together, table=thing)
        for wide in range(1, 9):
            for entry in OTHERS:
                for row, column in ((0, 0), (1, wide - 1), (2, wide // 2)):
                    raised(NotPlain, together, with_entry([[0] * wide, [1] * wide, [0] * wide], row, column, entry))
        for rows in (1, 8):
            for entry in (0, 1):
                self.assertEqual(raised(TooMany, together, [[entry] * 8] * rows).many, 7)
                self.assertEqual(raised(TooMany, together, table=[[entry] * 8] * rows).many, 7)


class IsTogether(unittest.TestCase):
    def check(self, table, order, wanted):
        self.assertIs(is_together(table, order), wanted)
        self.assertIs(is_together(order=order, table=table), wanted)

    def test_all_orders(self):
        seen = {True: 0, False: 0}
        tables = [*all_tables(2, 3, (0, 1)), FORK, *mixed(some_stretches(20, 411, 4, 5), 412)]
        for table in tables:
            for order in permutations(range(len(table[0]))):
                wanted = stands(table, order)
                self.check(table, list(order), wanted)
                self.check(table, list(order)[::-1], wanted)
                seen[wanted] += 1
        self.assertGreater(min(seen.values()), 200)

    def test_eight_columns(self):
        for table, other in zip(some_stretches(20, 413), mixed(some_stretches(20, 413), 414)):
            self.check(table, [0, 1, 2, 3, 4, 5, 6, 7], True)
            self.check(table, [7, 6, 5, 4, 3, 2, 1, 0], True)
            self.check(other, [0, 1, 2, 3, 4, 5, 6, 7], stands(other, range(8)))
        self.check(ring(8)[:7] + [[0] * 8], list(range(8)), True)
        self.check([[1, 0, 0, 0, 0, 0, 0, 1]], [1, 2, 3, 4, 5, 6, 7, 0], True)
        self.check([[1, 0, 0, 0, 0, 0, 0, 1]], list(range(8)), False)

    def test_what_is_no_order(self):
        table = [[1, 1, 0], [0, 1, 1]]
        self.check(table, [0, 1, 2], True)
        wrong = [*NO_LISTS, [], [0, 1], [0, 1, 2, 3], [0, 0, 1, 2], [0, 1, 1], [2, 1, 2], [1, 2, 3], [-1, 0, 1]]
        wrong += [(0, 1, 2), {0: 0, 1: 1, 2: 2}, "012", [[0, 1, 2]], [0, 1, -1], [0, 1, LONG]]
        wrong += [range(3), iter([0, 1, 2])]
        for order in wrong:
            self.check(table, order, False)
        for at in range(3):
            for thing in [*NO_PLACES, (0, 1)]:
                order = [0, 1, 2]
                order[at] = thing
                self.check(table, order, False)
        self.check([[1, 1]], [False, True], False)
        self.check([[1]], [False], False)
        self.check([[0]], [0], True)

    def test_the_refusals(self):
        for order in ([0], None, Odd(), list(range(8))):
            for thing in NO_TABLES:
                raised(BadTable, is_together, thing, order)
                raised(BadTable, is_together, order=order, table=thing)
            for entry in OTHERS:
                for wide in (1, 7, 8):
                    raised(NotPlain, is_together, [[0] * wide, [1] * (wide - 1) + [entry]], order)


class Stretches(unittest.TestCase):
    def test_ones_that_can_stand_together_are_unimodular(self):
        told = 0
        tables = [*all_tables(3, 3, (0, 1)), *mixed(some_stretches(20, 421, 8, 7), 422), *some_tables(80, 0, 1, 423)]
        for table in tables:
            table = [row[:7] for row in table]
            if together(table) is not None:
                self.assertTrue(is_unimodular(table))
                told += 1
        self.assertGreater(told, 300)
        for table in mixed(some_stretches(10, 424, 5, 5), 425):
            self.assertTrue(is_sound(table))

    def test_the_turned_one_is_that_of_a_net_whose_ends_are_one_way(self):
        for table in mixed(some_stretches(60, 426, 6, 5), 427):
            order = together(table)
            places = [order.index(column) for column in range(len(order))]
            ends = [(place, place + 1) for place in places]
            arcs = []
            for row in table:
                ones = [place for place, entry in zip(places, row) if entry]
                arcs.append((min(ones), max(ones) + 1) if ones else (0, 0))
            self.assertEqual(net_table(ends, arcs), turned(table))
            self.assertTrue(is_net(turned(table), as_net(turned(table))))


class Kept(unittest.TestCase):
    def test_what_is_handed_in_stays_and_what_is_told_is_new(self):
        table = [[1, 0, 1], [1, 1, 0]]
        told = together(table)
        again, as_it_was = list(told), deepcopy(table)
        self.assertTrue(is_together(table, told))
        self.assertEqual(told, again)
        told[0] = "spoilt"
        self.assertEqual(together(table), again)
        self.assertEqual(table, as_it_was)

    def test_what_is_changed_and_changed_back(self):
        table, order = [[1, 0, 1], [1, 1, 0]], [1, 0, 2]
        self.assertTrue(is_together(table, order))
        table[0][1] = 1
        self.assertEqual(together(table), [0, 1, 2])
        table[0][1] = 2
        raised(NotPlain, together, table)
        table[0][1] = 0
        self.assertEqual(together(table), [1, 0, 2])
        order[0] = 0
        self.assertFalse(is_together(table, order))
        order[0] = 1
        self.assertTrue(is_together(table, order))


if __name__ == "__main__":
    unittest.main()
