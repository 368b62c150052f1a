"""Points [2] to [4], [34], [35] and [38]: tables that are those of nets, and anything judged as a net."""

import unittest
from copy import deepcopy
from itertools import product as choices
from random import Random

from nets import ROUND, all_some_nets, is_some_net, slow_net_table, some_arcs, some_ends
from samples import (
    NETLIKE, NO_LISTS, NO_TABLES, Odd, all_tables, is_sound, raised, ring, some_nets, some_tables, sound_tables,
)
from signbook.errors import BadTable, TooMany
from signbook.nets import as_net, is_net, net_table
from signbook.signs import is_unimodular
from signbook.tables import piece, signed_by, turned
from tasks import LONG


class AsNet(unittest.TestCase):
    def check_net(self, table, told):
        """Make sure that what is told is a net of which this is the table."""
        self.assertEqual([type(told), type(told[1]), type(told[2])], [tuple, list, list])
        word, ends, arcs = told
        self.assertEqual(word, "net")
        self.assertEqual((len(ends), len(arcs)), (len(table), len(table[0])))
        for thing in ends + arcs:
            self.assertIs(type(thing), tuple)
            self.assertEqual([type(place) for place in thing], [int, int])
        self.assertEqual(slow_net_table(ends, arcs), table)
        self.assertEqual(net_table(ends, arcs), table)
        self.assertIs(is_net(table, told), True)

    def test_some(self):
        self.assertEqual(as_net([[2]]), None)
        self.assertEqual(as_net(table=ring(3)), None)
        self.check_net([[0]], as_net([[0]]))
        self.check_net([[1, -1]], as_net([[1, -1]]))
        self.check_net(NETLIKE, as_net(NETLIKE))
        # Three ways two by two along three ends: these meet in one place.
        self.assertIsNone(as_net([[1, 0, 1], [1, 1, 0], [0, 1, 1]]))
        self.check_net([[1, 0, 1], [-1, 1, 0], [0, -1, -1]], as_net([[1, 0, 1], [-1, 1, 0], [0, -1, -1]]))

    def test_tables_of_nets(self):
        chance = Random(311)
        for ends, arcs in all_some_nets(250, 312, most=5):
            table = slow_net_table(ends, arcs)
            chance.shuffle(table)
            columns = [list(column) for column in zip(*table)]
            columns += [columns[0], [0] * len(table)][:8 - len(columns)]
            if len(columns) < 8:
                lone = [0] * len(table)
                lone[chance.randrange(len(lone))] = chance.choice((1, -1))
                columns.append(lone)
            chance.shuffle(columns)
            table = [list(row) for row in zip(*columns)]
            self.check_net(table, as_net(table))

    def check_all(self, tables):
        found = {True: 0, False: 0}
        for table in tables:
            told, wanted = as_net(table), is_some_net(table)
            self.assertEqual(told is not None, wanted, table)
            if told is not None:
                self.check_net(table, told)
            found[wanted] += 1
        return found

    def test_all_small_tables_against_all_trees(self):
        found = self.check_all([
            *all_tables(1, 3, (-1, 0, 1, 2)), *all_tables(2, 2, (-2, -1, 0, 1)), *all_tables(3, 2, (-1, 0, 1)),
            *all_tables(3, 3, (0, 1)), *all_tables(2, 3, (-1, 0, 1)),
        ])
        self.assertGreater(min(found.values()), 100)

    def test_tables_of_four_and_five_rows_against_all_trees(self):
        chance = Random(313)
        tables = []
        for rows in (3, 4, 5):
            for _ in range(120):
                table = slow_net_table(some_ends(rows, chance), some_arcs(chance.randint(2, 8), rows + 1, chance))
                tables.append(table)
                # One entry otherwise makes it no net's table more often than not.
                spoilt = deepcopy(table)
                row, column = chance.randrange(rows), chance.randrange(len(table[0]))
                spoilt[row][column] = chance.choice([entry for entry in (-1, 0, 1, 2) if entry != table[row][column]])
                tables.append(spoilt)
        found = self.check_all(tables)
        self.assertGreater(min(found.values()), 150)

    def test_tables_of_no_nets_in_good_time(self):
        for column in choices((0, 1), repeat=3):
            table = [[0] * 8 for _ in range(4)] + [[2, 1, 1, -1, 0, *column]]
            self.assertIsNone(as_net(table))
        # Columns of a single 1 go with every tree.
        units = [[int(row == column) for column in range(5)] for row in range(5)]
        for three in choices((0, 1), repeat=3):
            table = [row + [1, *([1] if three[at % 3] else [-1]), 1] for at, row in enumerate(units)]
            self.assertEqual(as_net(table) is not None, is_some_net(table))
        for table in (*some_tables(30, -1, 1, 314), *some_tables(30, -LONG, LONG, 315)):
            table = table[:5]
            self.assertEqual(as_net(table) is not None, is_some_net(table))

    def test_more_than_five_rows_are_refused(self):
        for rows in (6, 7, 8):
            for entry in (0, 1, -1, 2, LONG):
                self.assertEqual(raised(TooMany, as_net, [[entry] * 3 for _ in range(rows)]).many, 5)
                self.assertEqual(raised(TooMany, as_net, table=[[entry]] * rows).many, 5)

    def test_what_is_no_table_is_refused(self):
        for thing in NO_TABLES:
            raised(BadTable, as_net, thing)
            raised(BadTable, as_net, table=thing)


class IsNet(unittest.TestCase):
    def check(self, table, thing, wanted):
        self.assertIs(is_net(table, thing), wanted)
        self.assertIs(is_net(thing=thing, table=table), wanted)

    def test_other_nets_of_the_same_table(self):
        chance = Random(321)
        for ends, arcs in all_some_nets(150, 322):
            table = slow_net_table(ends, arcs)
            self.check(table, ("net", ends, arcs), True)
            places = list(range(len(ends) + 1))
            chance.shuffle(places)
            others = [[(places[start], places[stop]) for start, stop in pairs] for pairs in (ends, arcs)]
            self.check(table, ("net", *others), True)
            # An arc of one place may be at any place.
            stays = [(0, 0) if start == stop else (start, stop) for start, stop in arcs]
            self.check(table, ("net", ends, stays), True)

    def test_nets_with_one_thing_otherwise(self):
        seen = 0
        for ends, arcs in all_some_nets(80, 323):
            table = slow_net_table(ends, arcs)
            for at in range(len(ends)):
                turned_end = ends[:at] + [ends[at][::-1]] + ends[at + 1:]
                self.check(table, ("net", turned_end, arcs), not any(table[at]))
                self.check(table, ("net", ends[:at] + ends[at + 1:], arcs), False)
                self.check(table, ("net", ends[:at] + [ends[at]] * 2 + ends[at + 1:], arcs), False)
                self.check(table, ("net", ends[:at] + [list(ends[at])] + ends[at + 1:], arcs), False)
            for at in range(len(arcs)):
                same = arcs[at][0] == arcs[at][1]
                self.check(table, ("net", ends, arcs[:at] + [arcs[at][::-1]] + arcs[at + 1:]), same)
                self.check(table, ("net", ends, arcs[:at] + arcs[at + 1:]), False)
                self.check(table, ("net", ends, arcs[:at] + [arcs[at]] * 2 + arcs[at + 1:]), False)
                self.check(table, ("net", ends, arcs[:at] + [list(arcs[at])] + arcs[at + 1:]), False)
            for at in range(1, len(ends)):
                exchanged = ends[:at - 1] + [ends[at], ends[at - 1]] + ends[at + 1:]
                self.check(table, ("net", exchanged, arcs), table[at] == table[at - 1])
                seen += 1
            exchanged = [arcs[-1], *arcs[1:-1], arcs[0]]
            columns = list(zip(*table))
            if len(arcs) > 1:
                self.check(table, ("net", ends, exchanged), columns[0] == columns[-1])
            self.check([[*row] for row in table[:-1]] or [[5]], ("net", ends, arcs), False)
        self.assertGreater(seen, 200)

    def test_another_word_or_form(self):
        ends, arcs = [(0, 1), (1, 2)], [(0, 2), (0, 1)]
        table = net_table(ends, arcs)
        self.check(table, ("net", ends, arcs), True)
        for thing in (
            ["net", ends, arcs], ("net", tuple(ends), arcs), ("net", ends, tuple(arcs)), ("Net", ends, arcs),
            ("nets", ends, arcs), ("", ends, arcs), (None, ends, arcs), (b"net", ends, arcs), (["net"], ends, arcs),
            (Odd(), ends, arcs), (ends, arcs), ("net", ends), ("net",), (), ("net", ends, arcs, []),
            ("net", arcs, ends), ("net", dict(ends), arcs), {"net": (ends, arcs)}, (("net", ends, arcs),),
            ("net", [[0, 1], [1, 2]], arcs), ("net", ends, [[0, 2], [0, 1]]),
            ("net", [(False, True), (1, 2)], arcs), ("net", ends, [(False, 2), (0, True)]),
        ):
            self.check(table, thing, False)
        for thing in [*NO_LISTS, [], [("net", ends, arcs)]]:
            self.check(table, thing, False)
            self.check(table, ("net", thing, arcs), False)
            self.check(table, ("net", ends, thing), False)
            self.check(table, ("net", [(0, 1), thing], arcs), False)
            self.check(table, ("net", ends, [thing, (0, 1)]), False)

    def test_of_a_table_that_is_no_nets(self):
        ends, arcs = [(0, 1), (1, 2), (2, 3)], [(0, 3), (1, 2), (3, 3)]
        self.check(ring(3), ("net", ends, arcs), False)
        self.check([[2]], ("net", [(0, 1)], [(0, 1)]), False)

    def test_what_is_no_table_is_refused(self):
        for table in NO_TABLES:
            for thing in (("net", [(0, 1)], [(0, 1)]), None, Odd()):
                raised(BadTable, is_net, table, thing)
                raised(BadTable, is_net, thing=thing, table=table)


class Nets(unittest.TestCase):
    def test_the_table_of_a_net_is_unimodular(self):
        for ends, arcs in all_some_nets(60, 331):
            self.assertTrue(is_unimodular(net_table(ends, arcs)))
        for ends, arcs in all_some_nets(60, 332, most=4):
            self.assertTrue(is_sound(net_table(ends, arcs)))

    def test_lines_signed_otherwise_or_left_out(self):
        chance = Random(333)
        for ends, arcs in all_some_nets(150, 334, most=5):
            table = net_table(ends, arcs)
            rows = [at for at in range(len(ends)) if chance.random() < 0.5]
            columns = [at for at in range(len(arcs)) if chance.random() < 0.5]
            signed = signed_by(table, rows, columns)
            told = as_net(signed)
            self.assertTrue(is_net(signed, told))
            if rows and columns:
                less = piece(table, rows, columns)
                self.assertTrue(is_net(less, as_net(less)))

    def test_a_net_stays_a_nets_with_rows_and_columns_in_another_order(self):
        chance = Random(335)
        for table in some_nets(40, 336, rows=5):
            columns = turned(table)
            chance.shuffle(columns)
            mixed = turned(columns)
            chance.shuffle(mixed)
            self.assertTrue(is_net(mixed, as_net(mixed)))

    def test_a_unimodular_table_that_is_no_nets_nor_turned(self):
        self.assertTrue(is_sound(ROUND))
        self.assertTrue(is_unimodular(ROUND))
        self.assertIsNone(as_net(ROUND))
        self.assertIsNone(as_net(turned(ROUND)))
        self.assertEqual([[abs(entry) for entry in row] for row in ROUND], [
            [int((column - row) % 5 in (0, 3, 4)) for column in range(5)] for row in range(5)
        ])

    def test_what_is_not_unimodular_is_no_nets(self):
        for table in [*some_tables(150, -1, 1, 337), *all_tables(2, 2, (-1, 0, 1))]:
            table = table[:5]
            if as_net(table) is not None:
                self.assertTrue(is_unimodular(table))

    def test_a_net_whose_turned_table_is_no_nets(self):
        # Three places, each with an end or an arc to each of three others.
        table = net_table([(0, 3), (0, 4), (0, 5), (1, 3), (2, 3)], [(1, 4), (1, 5), (2, 4), (2, 5)])
        self.assertIsNotNone(as_net(table))
        self.assertIsNone(as_net(turned(table)))
        self.assertTrue(is_unimodular(turned(table)))

    def test_sound_tables_by_all_trees(self):
        for table in sound_tables(60, 338):
            table = [row[:5] for row in table[:5]]
            for one in (table, turned(table)):
                self.assertEqual(as_net(one) is not None, is_some_net(one))


class Kept(unittest.TestCase):
    def test_what_is_handed_in_stays_and_what_is_told_is_new(self):
        table = net_table([(0, 1), (1, 2), (1, 3)], [(0, 3), (2, 3)])
        as_it_was = deepcopy(table)
        told = as_net(table)
        again = deepcopy(told)
        self.assertTrue(is_net(table, told))
        self.assertEqual(told, again)
        told[1][0] = "spoilt"
        told[2].append("spoilt")
        self.assertEqual(table, as_it_was)
        self.assertEqual(as_net(table), again)
        self.assertIsNot(as_net(table)[1], as_net(table)[1])

    def test_what_is_changed_and_changed_back(self):
        table = deepcopy(NETLIKE)
        net = as_net(table)
        table[0][1] = 2
        self.assertIsNone(as_net(table))
        self.assertFalse(is_net(table, net))
        table[0][1] = 0
        self.assertEqual(as_net(table), net)
        self.assertTrue(is_net(table, net))


if __name__ == "__main__":
    unittest.main()
