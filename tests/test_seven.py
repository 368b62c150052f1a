"""Points [2] to [4], [39] to [44]: noughts and ones signed to be unimodular, and pieces by twos that bar this."""

import unittest
from copy import deepcopy
from itertools import combinations, product as choices
from random import Random

from nets import ROUND
from samples import (
    NO_LISTS, NO_PLACES, NO_TABLES, Odd, all_tables, is_sound, picks, raised, ring, some_nets, some_stretches,
    some_tables, sound_tables,
)
from signbook.errors import BadTable, NotPlain, TooMany
from signbook.seven import is_piece, signed
from signbook.signs import is_unimodular
from signbook.tables import piece, turned
from tasks import LONG

POINTS = [[1, 1, 0, 1], [1, 0, 1, 1], [0, 1, 1, 1]]
SIZES = {"seven": [3] * 7 + [4] * 7 + [7], "turned": [4] * 7}


def tied_sizes(table, taken, kept):
    """Tell the sizes of the tied sets of kept elements, sorted, by adding up columns by twos."""
    rows = len(table)
    columns = [tuple(int(row == at) for row in range(rows)) for at in range(rows)] + list(zip(*table))

    def sums(places, least):
        for size in range(least, len(places) + 1):
            for some in combinations(places, size):
                yield tuple(sum(columns[at][row] for at in some) % 2 for row in range(rows)), size

    free = {total for total, _ in sums(taken, 0)}
    return sorted(size for total, size in sums(kept, 1) if total in free)


def is_right_piece(table, thing):
    """Tell whether a tuple of a kind and two rising lists of places is a piece by twos."""
    kind, taken, kept = thing
    many = len(table) + len(table[0])
    for places in (taken, kept):
        if type(places) is not list or sorted(set(places)) != places or not set(places) <= set(range(many)):
            return False
    if len(kept) != 7 or set(kept) & set(taken):
        return False
    return tied_sizes(table, taken, kept) == SIZES[kind]


def joins(table):
    """Tell the ones between whose row and column no way leads by the joining ones ahead of them."""
    told = []
    for row, entries in enumerate(table):
        for column, entry in enumerate(entries):
            rows, columns = {row}, set()
            for _ in told:
                columns |= {at for up, at in told if up in rows}
                rows |= {up for up, at in told if at in columns}
            if entry and column not in columns:
                told.append((row, column))
    return told


def all_signings(table):
    """Tell the table with all signs at its ones."""
    ones = [(row, column) for row, entries in enumerate(table) for column, entry in enumerate(entries) if entry]
    for signs in choices((1, -1), repeat=len(ones)):
        told = [[0] * len(table[0]) for _ in table]
        for (row, column), sign in zip(ones, signs):
            told[row][column] = sign
        yield told


def small(table):
    """Tell the noughts and ones of a table's first five rows and columns."""
    return [[abs(entry) for entry in row[:5]] for row in table[:5]]


def some_ones(many, seed, least=1):
    """Tell tables of noughts and ones of up to five rows and columns, few ones and many, the same each time."""
    chance = Random(seed)
    for _ in range(many):
        rows, columns, share = chance.randint(least, 5), chance.randint(least, 5), chance.choice((0.4, 0.6, 0.75, 0.9))
        yield [[int(chance.random() < share) for _ in range(columns)] for _ in range(rows)]


def pivoted_by_twos(table, row, column):
    """Tell the table pivoted by twos at a one."""
    return [
        [
            entry if at == row or to == column else (entry + table[row][to] * table[at][column]) % 2
            for to, entry in enumerate(entries)
        ]
        for at, entries in enumerate(table)
    ]


def has_signs(table):
    """Tell whether signed tells signs."""
    return signed(table)[0] == "signed"


class Signed(unittest.TestCase):
    def check(self, table):
        """Make sure that what is told of the table is right; tell whether it is signs."""
        told = signed(table)
        self.assertIs(type(told), tuple)
        if told[0] != "signed":
            self.assertEqual(len(told), 3)
            self.assertTrue(is_right_piece(table, told), (table, told))
            self.assertIs(is_piece(table, told), True)
            return False
        word, signs = told
        self.assertEqual(word, "signed")
        self.assertEqual({type(entry) for row in signs for entry in row}, {int})
        self.assertEqual([[abs(entry) for entry in row] for row in signs], table)
        self.assertTrue(all(signs[row][column] == 1 for row, column in joins(table)))
        self.assertTrue(is_sound(signs), (table, signs))
        return True

    def test_some(self):
        self.assertEqual(signed([[0]]), ("signed", [[0]]))
        self.assertEqual(signed([[1]]), ("signed", [[1]]))
        self.assertEqual(signed([[1, 1], [1, 1]]), ("signed", [[1, 1], [1, 1]]))
        self.assertEqual(signed(table=ring(3)), ("signed", [[1, 1, 0], [0, 1, 1], [1, 0, -1]]))
        self.assertEqual(signed([[1, 1, 0], [1, 1, 1], [0, 1, 1]]), ("signed", [[1, 1, 0], [1, 1, 1], [0, 1, 1]]))
        self.assertEqual(signed([[1] * 5] * 5), ("signed", [[1] * 5] * 5))

    def test_the_table_of_the_seven_points_and_the_turned_one(self):
        self.assertEqual(signed(POINTS), ("seven", [], [0, 1, 2, 3, 4, 5, 6]))
        self.assertEqual(signed(turned(POINTS)), ("turned", [], [0, 1, 2, 3, 4, 5, 6]))
        for row, column in ((0, 0), (1, 3), (2, 1)):
            less = deepcopy(POINTS)
            less[row][column] = 0
            self.assertTrue(self.check(less))
        self.assertFalse(any(is_sound(table) for table in all_signings(POINTS)))

    def test_small_tables_against_all_signings(self):
        told = {True: 0, False: 0}
        for table in [*all_tables(3, 3, (0, 1)), *all_tables(2, 4, (0, 1)), *all_tables(3, 2, (0, 1))]:
            self.assertTrue(self.check(table))
            self.assertTrue(any(is_sound(signs) for signs in all_signings(table)))
        chance = Random(501)
        ones = [(row, column) for row in range(3) for column in range(4)]
        for _ in range(60):
            table = [[0] * 4 for _ in range(3)]
            for row, column in chance.sample(ones, chance.randint(7, 10)):
                table[row][column] = 1
            for one in (table, turned(table)):
                wanted = any(is_unimodular(signs) for signs in all_signings(one))
                self.assertEqual(self.check(one), wanted)
                told[wanted] += 1
        self.assertGreater(min(told.values()), 9)

    def test_all_tables_of_three_rows_and_four_columns(self):
        pieces = [table for table in all_tables(3, 4, (0, 1)) if not self.check(table)]
        # The columns are those of the seven points that are no units, in any order.
        self.assertEqual(len(pieces), 24)
        for table in pieces:
            self.assertEqual(sorted(zip(*table)), [(0, 1, 1), (1, 0, 1), (1, 1, 0), (1, 1, 1)])

    def test_up_to_five_rows_and_columns(self):
        told = {True: 0, False: 0}
        for table in some_ones(500, 502):
            told[self.check(table)] += 1
        for share in (0.45, 0.6, 0.7, 0.8):
            chance = Random(503)
            for _ in range(60):
                told[self.check([[int(chance.random() < share) for _ in range(5)] for _ in range(5)])] += 1
        self.assertGreater(min(told.values()), 90)

    def test_each_number_of_rows_and_columns(self):
        for rows in range(1, 6):
            for columns in range(1, 6):
                told = [self.check(table) for table in self.of_shape(rows, columns)]
                if rows + columns < 7 or min(rows, columns) < 3:
                    self.assertTrue(all(told))
                else:
                    self.assertIn(False, told)

    def of_shape(self, rows, columns):
        """Tell tables of a shape, with the seven points' table in some of them."""
        chance = Random(504)
        for at in range(20):
            table = [[chance.randint(0, 1) for _ in range(columns)] for _ in range(rows)]
            points = [POINTS, turned(POINTS)][at % 2]
            if len(points) <= rows and len(points[0]) <= columns:
                for up, entries in enumerate(points):
                    table[up][:len(entries)] = entries
            yield table

    def test_noughts_and_ones_of_unimodular_tables(self):
        for table in [*sound_tables(80, 505), *some_nets(20, 506), *some_stretches(20, 507), ROUND]:
            self.assertTrue(self.check(small(table)))

    def test_the_five_in_a_round(self):
        table = small(ROUND)
        self.assertTrue(self.check(table))
        for row in range(5):
            for column in range(5):
                other = deepcopy(table)
                other[row][column] = 1 - other[row][column]
                self.check(other)

    def test_pieces_of_either_kind_with_and_without_taken(self):
        kinds = set()
        for table in some_ones(200, 508, least=4):
            told = signed(table)
            if told[0] != "signed":
                kinds.add((told[0], len(told[1]) > 0))
        self.assertEqual(kinds, {("seven", False), ("seven", True), ("turned", False), ("turned", True)})

    def test_the_refusals(self):
        for thing in NO_TABLES:
            raised(BadTable, signed, thing)
            raised(BadTable, signed, table=thing)
        for entry in (-1, 2, LONG, -LONG):
            for rows, columns in ((1, 1), (3, 5), (6, 1), (1, 6), (8, 8)):
                table = [[1] * columns for _ in range(rows)]
                table[-1][-1] = entry
                raised(NotPlain, signed, table)
                raised(NotPlain, is_piece, table, None)
        for rows, columns in ((6, 1), (1, 6), (6, 5), (5, 6), (8, 8)):
            for entry in (0, 1):
                self.assertEqual(raised(TooMany, signed, [[entry] * columns] * rows).many, 5)
                self.assertEqual(raised(TooMany, is_piece, [[entry] * columns] * rows, Odd()).many, 5)


class IsPiece(unittest.TestCase):
    def check(self, table, thing, wanted):
        self.assertIs(is_piece(table, thing), wanted, (table, thing))
        self.assertIs(is_piece(thing=thing, table=table), wanted)

    def test_all_pieces_of_some_tables(self):
        seen = {True: 0, False: 0}
        wide = [[1, 1, 0, 1, 1], [1, 0, 1, 1, 0], [0, 1, 1, 1, 1]]
        tall = [[1, 1, 0, 1], [1, 0, 1, 1], [0, 1, 1, 1], [1, 0, 0, 1]]
        for table in (POINTS, turned(POINTS), wide, turned(wide), tall, small(ROUND)):
            many = len(table) + len(table[0])
            for kept in picks(many, 7):
                spare = [at for at in range(many) if at not in kept]
                for size in range(len(spare) + 1):
                    for taken in combinations(spare, size):
                        for kind in SIZES:
                            thing = (kind, list(taken), kept)
                            wanted = is_right_piece(table, thing)
                            self.check(table, thing, wanted)
                            seen[wanted] += 1
        self.assertGreater(min(seen.values()), 5)

    def test_told_pieces_with_one_thing_otherwise(self):
        tried = 0
        for table in some_ones(150, 511, least=4):
            told = signed(table)
            if told[0] == "signed":
                self.check(table, told, False)
                continue
            kind, taken, kept = told
            many = len(table) + len(table[0])
            self.check(table, told, True)
            self.check(table, ("turned" if kind == "seven" else "seven", taken, kept), False)
            self.check(table, (kind, kept, taken), False)
            for at in range(7):
                self.check(table, (kind, taken, kept[:at] + kept[at + 1:]), False)
                self.check(table, (kind, taken, kept[:at] + [kept[at]] * 2 + kept[at + 1:]), False)
                for place in range(-1, many + 1):
                    self.check_right(table, (kind, taken, kept[:at] + [place] + kept[at + 1:]))
                    self.check_right(table, (kind, taken, sorted(kept[:at] + [place] + kept[at + 1:])))
                    self.check_right(table, (kind, sorted(taken + [place]), kept))
            for at in range(len(taken)):
                self.check_right(table, (kind, taken[:at] + taken[at + 1:], kept))
            self.check(table, (kind, taken, kept[::-1]), False)
            self.check(table, (kind, taken + kept[:1], kept), False)
            self.check(table, (kind, taken, kept + [many]), False)
            tried += 1
        self.assertGreater(tried, 20)

    def check_right(self, table, thing):
        self.check(table, thing, is_right_piece(table, thing))

    def test_truths_and_other_sorts(self):
        kept = [0, 1, 2, 3, 4, 5, 6]
        table = turned(turned(POINTS))
        self.check(table, ("seven", [], kept), True)
        for thing in (
            ["seven", [], kept], ("seven", [], tuple(kept)), ("seven", (), kept), ("seven", [], kept, []),
            ("seven", []), ("seven", [], {0: kept}),
            ("seven",), (), ("seven", None, kept), ("seven", [], None), (None, [], kept), (Odd(), [], kept),
            (["seven"], [], kept), ("Seven", [], kept), ("signed", [], kept), ("", [], kept), (b"seven", [], kept),
            ("seven", [], [False, *kept[1:]]), ("seven", [], [0, True, *kept[2:]]),
            ("seven", {}, kept), ("seven", "", kept), ("seven", [], [[0], *kept[1:]]), ("seven", [], "0123456"),
            ("seven", [True], kept), ("seven", [None], kept), ("seven", [[]], kept), {"seven": kept},
        ):
            self.check(table, thing, False)
        for thing in [*NO_LISTS, [], [("seven", [], kept)], ("signed", table)]:
            self.check(table, thing, False)
            self.check(table, ("seven", [thing], kept), False)
            if type(thing) is not list or thing:
                self.check(table, ("seven", thing, kept), False)
            self.check(table, ("seven", [], thing), False)
        for at in range(7):
            for thing in [*NO_PLACES, (0, 1)]:
                self.check(table, ("seven", [], kept[:at] + [thing] + kept[at + 1:]), False)

    def test_just_seven_are_kept(self):
        # The unit of a row of noughts is in no tied set, so it changes none of the sizes.
        more = POINTS + [[0, 0, 0, 0]]
        self.check(more, ("seven", [], [0, 1, 2, 4, 5, 6, 7]), True)
        self.check(more, ("seven", [3], [0, 1, 2, 4, 5, 6, 7]), True)
        self.check(more, ("seven", [], [0, 1, 2, 3, 4, 5, 6, 7]), False)
        other = turned(POINTS) + [[0, 0, 0]]
        self.check(other, ("turned", [], [0, 1, 2, 3, 5, 6, 7]), True)
        self.check(other, ("turned", [4], [0, 1, 2, 3, 5, 6, 7]), True)
        self.check(other, ("turned", [], [0, 1, 2, 3, 4, 5, 6, 7]), False)

    def test_of_a_table_with_signs_nothing_is_one(self):
        for table in ([[1] * 4] * 3, small(ROUND), [[0] * 5] * 5, ring(5)[:4] + [[1, 0, 0, 0, 1]]):
            many = len(table) + len(table[0])
            for kept in picks(many, 7):
                for kind in SIZES:
                    self.check(table, (kind, [], kept), False)
        self.check([[1]], ("seven", [], [0, 1]), False)

    def test_what_is_no_table_is_refused(self):
        for table in NO_TABLES:
            for thing in (("seven", [], [0, 1, 2, 3, 4, 5, 6]), None, Odd()):
                raised(BadTable, is_piece, table, thing)
                raised(BadTable, is_piece, thing=thing, table=table)


class Alike(unittest.TestCase):
    """What [43] and [44] say of tables that have signs together."""

    def tables(self, many=120, seed=521):
        yield from some_ones(many, seed, least=3)
        yield from (POINTS, turned(POINTS), small(ROUND))

    def test_told_signs_lead_back_to_the_unimodular_table(self):
        for table in [*sound_tables(80, 522), *some_nets(20, 523)]:
            table = [row[:5] for row in table[:5]]
            _, signs = signed(small(table))
            self.assertTrue(any(
                all(
                    len({entry * other * up for other, entry, up in zip(signs_row, row, ups) if other}) <= 1
                    for signs_row, row in zip(signs, table)
                )
                for ups in choices((1, -1), repeat=len(table[0]))
            ))

    def test_fewer_than_seven_rows_and_columns_have_signs(self):
        for table in some_ones(300, 524):
            if len(table) + len(table[0]) < 7:
                self.assertTrue(has_signs(table))
        for table in [*all_tables(3, 3, (0, 1)), *all_tables(2, 4, (0, 1)), *all_tables(4, 2, (0, 1))]:
            self.assertTrue(has_signs(table))

    def test_turned_mixed_told_twice_and_pivoted_by_twos(self):
        chance = Random(525)
        for table in self.tables():
            wanted = has_signs(table)
            self.assertEqual(has_signs(turned(table)), wanted)
            mixed = chance.sample(table, len(table))
            self.assertEqual(has_signs(mixed), wanted)
            self.assertEqual(has_signs(turned(chance.sample(turned(mixed), len(table[0])))), wanted)
            if len(table) < 5:
                self.assertEqual(has_signs(table + [chance.choice(table)]), wanted)
            if len(table[0]) < 5:
                self.assertEqual(has_signs(turned(turned(table) + [chance.choice(turned(table))])), wanted)
            ones = [(row, column) for row, column in joins(table)]
            for row, column in ones[:3]:
                self.assertEqual(has_signs(pivoted_by_twos(table, row, column)), wanted)

    def test_each_piece_of_a_table_with_signs_has_signs(self):
        chance = Random(526)
        for table in self.tables(100, 527):
            if has_signs(table):
                for _ in range(6):
                    rows = chance.choice(picks(len(table), chance.randint(1, len(table))))
                    columns = chance.choice(picks(len(table[0]), chance.randint(1, len(table[0]))))
                    self.assertTrue(has_signs(piece(table, rows, columns)))


class Kept(unittest.TestCase):
    def test_what_is_handed_in_stays_and_what_is_told_is_new(self):
        for table in (ring(3), POINTS, turned(POINTS)):
            as_it_was = deepcopy(table)
            told = signed(table)
            again = deepcopy(told)
            self.assertEqual(is_piece(table, told), told[0] != "signed")
            self.assertEqual(told, again)
            for thing in told[1:]:
                thing.append("spoilt")
            if told[0] == "signed":
                told[1][0][0] = "spoilt"
            self.assertEqual(signed(table), again)
            self.assertEqual(table, as_it_was)

    def test_a_row_that_stands_twice_as_one_object(self):
        row = [1, 0, 1]
        _, signs = signed([row, row])
        self.assertEqual(signs, [[1, 0, 1], [1, 0, 1]])
        self.assertIsNot(signs[0], signs[1])

    def test_what_is_changed_and_changed_back(self):
        table = deepcopy(POINTS)
        told = signed(table)
        table[0][0] = 0
        self.assertTrue(has_signs(table))
        self.assertFalse(is_piece(table, told))
        table[0][0] = -1
        raised(NotPlain, signed, table)
        raised(NotPlain, is_piece, table, told)
        table[0][0] = 1
        self.assertEqual(signed(table), told)
        self.assertTrue(is_piece(table, told))


if __name__ == "__main__":
    unittest.main()
