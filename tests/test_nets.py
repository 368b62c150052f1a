"""Points [2], [4] and [33]: the tables of nets, and ends and arcs that are none."""

import unittest
from copy import deepcopy
from itertools import permutations, product as choices
from random import Random

from nets import all_some_nets, slow_net_table, some_arcs, some_ends, walk
from samples import NO_LISTS, NO_PLACES, Odd, raised
from signbook.errors import NoArcs, NoTree
from signbook.nets import net_table
from tasks import LONG

LINE = [(0, 1), (1, 2), (2, 3)]
NO_TUPLES = [None, True, 0, "01", b"01", [0, 1], {0, 1}, {0: 1}, (), (0,), (0, 1, 2), ((0, 1),), object(), Odd()]


def wrong_pairs(places):
    """Tell things that are no tuple of two of so many places."""
    yield from NO_TUPLES
    for thing in [*NO_PLACES, (0, 1), -1, places, places + 1, LONG, -LONG]:
        yield (thing, 0)
        yield (0, thing)
        yield (thing, thing)


class NetTable(unittest.TestCase):
    def test_some(self):
        self.assertEqual(net_table([(0, 1)], [(0, 1), (1, 0), (0, 0), (1, 1)]), [[1, -1, 0, 0]])
        self.assertEqual(net_table([(1, 0)], [(0, 1), (1, 0)]), [[-1, 1]])
        self.assertEqual(net_table(LINE, [(0, 3), (3, 1), (1, 2)]), [[1, 0, 0], [1, -1, 1], [1, -1, 0]])
        self.assertEqual(net_table([(0, 1), (2, 1)], [(0, 2), (2, 0)]), [[1, -1], [-1, 1]])
        self.assertEqual(net_table(arcs=[(2, 1)], ends=[(0, 1), (0, 2)]), [[1], [-1]])

    def test_ways_walked_step_by_step(self):
        for ends, arcs in all_some_nets(250, 301):
            told = net_table(ends, arcs)
            self.assertEqual(told, slow_net_table(ends, arcs))
            self.assertEqual({type(entry) for row in told for entry in row}, {int})

    def test_each_entry_by_the_two_sides_of_its_end(self):
        for ends, arcs in all_some_nets(100, 302):
            table = net_table(ends, arcs)
            for row, (first, second) in enumerate(ends):
                # Who stands on the first one's side comes to it ahead of the second one.
                sides = [second not in walk(ends, place, first) for place in range(len(ends) + 1)]
                for column, (start, stop) in enumerate(arcs):
                    self.assertEqual(table[row][column], sides[start] - sides[stop])

    def test_one_to_eight_ends_and_arcs(self):
        chance = Random(303)
        for rows in range(1, 9):
            for columns in range(1, 9):
                ends, arcs = some_ends(rows, chance), some_arcs(columns, rows + 1, chance)
                told = net_table(ends, arcs)
                self.assertEqual((len(told), {len(row) for row in told}), (rows, {columns}))
                self.assertEqual(told, slow_net_table(ends, arcs))

    def test_all_trees_of_three_ends(self):
        pairs = [pair for pair in choices(range(4), repeat=2) if pair[0] != pair[1]]
        trees = 0
        for ends in choices(pairs, repeat=3):
            arcs = [(0, 1), (0, 2), (0, 3), (3, 1), (2, 3), (1, 2), (2, 2)]
            round_at = self.first_round(ends)
            if round_at is None:
                self.assertEqual(net_table(list(ends), arcs), slow_net_table(ends, arcs))
                trees += 1
            else:
                self.assertEqual(raised(NoTree, net_table, list(ends), arcs).at, round_at)
        # Sixteen trees on four places, their ends in any order and turned either way.
        self.assertEqual(trees, 16 * 6 * 8)

    def first_round(self, ends):
        """Tell the first end between whose places a way leads along those ahead of it, or None."""
        for at, (start, stop) in enumerate(ends):
            known = {start}
            for _ in range(at):
                known |= {place for end in ends[:at] if known & set(end) for place in end}
            if stop in known:
                return at
        return None

    def test_an_end_exchanged_or_turned(self):
        for ends, arcs in all_some_nets(30, 304, most=4):
            table = net_table(ends, arcs)
            for order in permutations(range(len(ends))):
                self.assertEqual(net_table([ends[at] for at in order], arcs), [table[at] for at in order])
            turned_end = [ends[0][::-1], *ends[1:]]
            self.assertEqual(net_table(turned_end, arcs), [[-entry for entry in table[0]], *table[1:]])
            self.assertEqual(net_table(ends, [arc[::-1] for arc in arcs]), [[-entry for entry in row] for row in table])


class NoTrees(unittest.TestCase):
    def check(self, at, ends, arcs):
        self.assertEqual(raised(NoTree, net_table, ends, arcs).at, at)
        self.assertEqual(raised(NoTree, net_table, arcs=arcs, ends=ends).at, at)

    def test_no_list_or_of_another_many(self):
        nine = [(at, at + 1) for at in range(9)]
        for ends in [*NO_LISTS, [], nine, [None] * 9, nine + [None], tuple(LINE), dict(LINE), ((0, 1),)]:
            for arcs in ([(0, 1)], None, [], [None]):
                self.check(-1, ends, arcs)

    def test_no_tuple_of_two_unlike_places(self):
        for many in (1, 2, 5, 8):
            right = [(at, at + 1) for at in range(many)]
            for at in range(many):
                for thing in [*wrong_pairs(many + 1), (0, 0), (many, many)]:
                    for arcs in ([(0, 1)], Odd()):
                        self.check(at, right[:at] + [thing] + right[at + 1:], arcs)

    def test_the_first_one_of_several(self):
        self.check(1, [(0, 1), (1, 1), (0, 1)], [])
        self.check(1, [(0, 1), (1, 0), (None, 1)], None)
        self.check(2, [(0, 1), (1, 2), (2, 0), (3, 9)], [(0, 0)])
        self.check(0, [(0, 4), (1, 2), (1, 2)], [(0, 0)])
        self.check(0, [[0, 1], (1, 2), (1, 2)], [(9, 9)])
        self.check(3, [(0, 1), (2, 3), (1, 2), (0, 3), (4, 5)], [(0, 1)])

    def test_rounds(self):
        chance = Random(305)
        for _ in range(200):
            ends = some_ends(chance.randint(2, 7), chance)
            # Ends have one more place than there are ends, so one may close a round behind a whole tree.
            at = chance.randint(2, len(ends))
            groups = [walk_places(ends[:at], place) for place in range(len(ends) + 1)]
            start = chance.choice([place for place, group in enumerate(groups) if len(group) > 1])
            stop = chance.choice(sorted(groups[start] - {start}))
            self.check(at, ends[:at] + [(start, stop)] + ends[at:], [(0, 1)])


def walk_places(ends, place):
    """Tell all places to which ways lead from a place."""
    known = {place}
    for _ in ends:
        known |= {other for end in ends if known & set(end) for other in end}
    return known


class NoArcsHere(unittest.TestCase):
    def check(self, at, ends, arcs):
        self.assertEqual(raised(NoArcs, net_table, ends, arcs).at, at)
        self.assertEqual(raised(NoArcs, net_table, arcs=arcs, ends=ends).at, at)

    def test_no_list_or_of_another_many(self):
        for arcs in [*NO_LISTS, [], [(0, 1)] * 9, [None] * 9, tuple(LINE), dict(LINE)]:
            self.check(-1, LINE, arcs)

    def test_no_tuple_of_two_places(self):
        for many in (1, 2, 8):
            right = [(at % (many + 1), 0) for at in range(many)]
            ends = [(at + 1, at) for at in range(many)]
            for at in range(many):
                for thing in wrong_pairs(many + 1):
                    self.check(at, ends, right[:at] + [thing] + right[at + 1:])

    def test_the_first_one_of_several(self):
        self.check(0, LINE, [(0, 4), None, (0, 1)])
        self.check(1, LINE, [(0, 0), (-1, 0), (4, 4)])
        self.check(2, LINE, [(3, 3), (0, 3), (0, 3, 1), ()])


class Kept(unittest.TestCase):
    def test_what_is_handed_in_stays_and_what_is_told_is_new(self):
        ends, arcs = list(LINE), [(0, 3), (2, 0), (0, 3)]
        as_it_was = deepcopy((ends, arcs))
        told = net_table(ends, arcs)
        again = deepcopy(told)
        self.assertEqual(len({id(row) for row in told}), 3)
        told[0][0] = "spoilt"
        told.append("spoilt")
        self.assertEqual((ends, arcs), as_it_was)
        self.assertEqual(net_table(ends, arcs), again)

    def test_what_is_changed_and_changed_back(self):
        ends, arcs = list(LINE), [(0, 3), (2, 0)]
        table = net_table(ends, arcs)
        ends[1] = (0, 2)
        self.assertEqual(net_table(ends, arcs), slow_net_table(ends, arcs))
        self.assertNotEqual(net_table(ends, arcs), table)
        ends[1] = (1, 2)
        arcs[0] = (3, 3)
        self.assertEqual(net_table(ends, arcs), slow_net_table(ends, arcs))
        arcs[0] = (0, 3)
        self.assertEqual(net_table(ends, arcs), table)


if __name__ == "__main__":
    unittest.main()
