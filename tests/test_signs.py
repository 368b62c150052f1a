"""Points [2], [4] and [15] to [19]: signs of picks of rows, the book of them, and what it shows."""

import unittest
from copy import deepcopy
from itertools import product as choices
from random import Random

from samples import (
    NETLIKE, NO_LISTS, NO_PLACES, NO_TABLES, Odd, all_tables, amid_noughts, is_sound, picks, raised, ring,
    slow_bad_square, some_nets, some_stretches, some_tables, sound_tables,
)
from signbook.errors import BadTable, NoPick, NotWhole
from signbook.signs import book, is_book, is_unimodular, signs_for
from signbook.squares import bad_square
from signbook.tables import piece, pivoted, signed_by, turned

LONG = 10 ** 39 + 7
RING = ring(3)


def all_picks(many):
    """Tell all picks of so many places, those of fewer ahead."""
    return [pick for size in range(1, many + 1) for pick in picks(many, size)]


def are_right(table, rows, signs):
    """Tell whether the sum of sign times row has none but -1, 0, 1 at each column."""
    sums = [sum(sign * table[row][column] for row, sign in zip(rows, signs)) for column in range(len(table[0]))]
    return all(value in (-1, 0, 1) for value in sums)


def all_right(table, rows):
    """Tell all right signs of a pick of rows, 1 standing ahead of -1."""
    return [list(signs) for signs in choices((1, -1), repeat=len(rows)) if are_right(table, rows, signs)]


def small_tables():
    """Tell tables with right signs and without."""
    yield from all_tables(2, 2, (-1, 0, 1, 2))
    yield from all_tables(3, 3, (0, 1))
    yield from ([row[:4] for row in table[:5]] for table in some_tables(60, -1, 1, 51))
    yield from (table for table in sound_tables(40, 52) if len(table) < 6)


class Signs(unittest.TestCase):
    def test_some(self):
        self.assertEqual(signs_for([[0]], [0]), [1])
        self.assertEqual(signs_for([[1, -1]], [0]), [1])
        self.assertIsNone(signs_for([[1, 2]], [0]))
        self.assertEqual(signs_for([[1, 1], [1, 0]], [0, 1]), [1, -1])
        self.assertEqual(signs_for([[1, 1], [-1, 0]], [0, 1]), [1, 1])
        self.assertIsNone(signs_for([[1, 1], [-1, 1]], [0, 1]))
        self.assertEqual(signs_for(rows=[0, 2], table=NETLIKE), [1, -1])
        self.assertIsNone(signs_for(RING, [0, 1, 2]))

    def test_the_first_right_ones(self):
        self.assertEqual(signs_for([[0]] * 4, [0, 1, 3]), [1, 1, 1])
        self.assertEqual(signs_for([[1]] * 4, [0, 1, 2, 3]), [1, 1, -1, -1])
        self.assertEqual(signs_for([[1, 0], [0, 0], [1, 0], [0, 1]], [0, 1, 2, 3]), [1, 1, -1, 1])

    def test_each_pick_of_small_tables(self):
        found = {True: 0, False: 0}
        for table in small_tables():
            for rows in all_picks(len(table)):
                right = all_right(table, rows)
                self.assertEqual(signs_for(table, rows), right[0] if right else None)
                found[bool(right)] += 1
        self.assertGreater(min(found.values()), 100)

    def test_of_great_entries(self):
        table = [[LONG, 1], [LONG - 1, 0], [-2 * LONG, 1], [1, -1]]
        self.assertIsNone(signs_for(table, [0]))
        self.assertEqual(signs_for(table, [0, 1]), [1, -1])
        self.assertIsNone(signs_for(table, [0, 1, 2]))
        self.assertEqual(signs_for(table, [0, 1, 2, 3]), [1, 1, 1, 1])
        for rows in all_picks(4):
            right = all_right(table, rows)
            self.assertEqual(signs_for(table, rows), right[0] if right else None)

    def test_all_eight_rows(self):
        chance = Random(53)
        for table in [*some_nets(6, 54), *some_stretches(6, 55)]:
            for rows in [list(range(8)), *(chance.choice(all_picks(8)) for _ in range(4))]:
                self.assertEqual(signs_for(table, rows), all_right(table, rows)[0])


class Picks(unittest.TestCase):
    table = [[1, 0], [0, 1], [1, 1], [3, 5]]

    def refused(self, rows, at):
        self.assertEqual(raised(NoPick, signs_for, self.table, rows).at, at, repr(rows))
        self.assertEqual(raised(NoPick, signs_for, rows=rows, table=self.table).at, at, repr(rows))

    def test_what_is_no_list_or_an_empty_one(self):
        for thing in [*NO_LISTS, []]:
            self.refused(thing, -1)

    def test_what_may_not_stand_there(self):
        for rows, at in (
            ([-1], 0), ([4], 0), ([0, 4], 1), ([0, 1, 2, 3, 4], 4), ([0, -1], 1), ([LONG], 0), ([-LONG], 0),
            ([0, 0], 1), ([1, 0], 1), ([0, 2, 2], 2), ([0, 2, 1], 2), ([3, 2, 1], 1), ([0, None, None], 1),
            ([0, 1, 2, 3, 3], 4), ([0, 3, 9, -1], 2),
        ):
            self.refused(rows, at)

    def test_other_things_at_each_place(self):
        for thing in NO_PLACES:
            for at in range(4):
                rows = [0, 1, 2, 3]
                rows[at] = thing
                self.refused(rows, at)

    def test_what_is_no_table_is_refused_ahead(self):
        for thing in NO_TABLES:
            for rows in ([0], [], None, [True], Odd()):
                raised(BadTable, signs_for, thing, rows)
                raised(BadTable, signs_for, rows=rows, table=thing)


class Books(unittest.TestCase):
    def test_some(self):
        self.assertEqual(book([[1]]), [([0], [1])])
        self.assertEqual(book(table=[[1, 1], [1, 0]]), [([0], [1]), ([1], [1]), ([0, 1], [1, -1])])
        self.assertEqual(raised(NotWhole, book, [[1, 2]]).rows, [0])
        self.assertEqual(raised(NotWhole, book, RING).rows, [0, 1, 2])

    def test_each_pick_in_order_with_its_signs_or_the_first_without(self):
        found = {True: 0, False: 0}
        for table in small_tables():
            signs = [(rows, signs_for(table, rows)) for rows in all_picks(len(table))]
            bare = [rows for rows, right in signs if right is None]
            if bare:
                self.assertEqual(raised(NotWhole, book, table).rows, bare[0])
                self.assertEqual(raised(NotWhole, book, table=table).rows, bare[0])
            else:
                self.assertEqual(book(table), signs)
            found[not bare] += 1
        self.assertGreater(min(found.values()), 40)

    def test_of_great_tables(self):
        for table in [*some_nets(3, 56), *some_stretches(3, 57), *sound_tables(20, 58)]:
            told = book(table)
            self.assertEqual([rows for rows, _ in told], all_picks(len(table)))
            self.assertTrue(all(signs == signs_for(table, rows) for rows, signs in told))
            self.assertIs(is_book(table, told), True)

    def test_what_is_no_table_is_refused(self):
        for thing in NO_TABLES:
            raised(BadTable, book, thing)
            raised(BadTable, book, table=thing)


class Judged(unittest.TestCase):
    table = NETLIKE

    def judged(self, thing, wanted, table=None):
        table = self.table if table is None else table
        self.assertIs(is_book(table, thing), wanted, repr(thing))
        self.assertIs(is_book(thing=thing, table=table), wanted, repr(thing))

    def otherwise(self, at, page):
        told = book(self.table)
        told[at] = page
        return told

    def test_the_book_in_any_order(self):
        chance = Random(59)
        for table in (NETLIKE, [[1]], *sound_tables(12, 60)):
            told = book(table)
            self.judged(told, True, table)
            self.judged(told[::-1], True, table)
            chance.shuffle(told)
            self.judged(told, True, table)

    def test_with_any_right_signs_and_no_others(self):
        for at, (rows, _) in enumerate(book(self.table)):
            for signs in choices((1, -1), repeat=len(rows)):
                self.judged(self.otherwise(at, (rows, list(signs))), are_right(self.table, rows, signs))

    def test_with_one_entry_otherwise(self):
        table = deepcopy(self.table)
        told = book(table)
        for row in range(3):
            for column in range(3):
                was = table[row][column]
                for entry in (-1, 0, 1, 2):
                    table[row][column] = entry
                    self.judged(told, all(are_right(table, rows, signs) for rows, signs in told), table)
                table[row][column] = was
        self.judged(told, True, table)

    def test_with_a_page_left_out_or_told_twice(self):
        told = book(self.table)
        for at in range(len(told)):
            self.judged(told[:at] + told[at + 1:], False)
            self.judged(told + [told[at]], False)
            self.judged(self.otherwise(at, told[at - 1]), False)
        self.judged([], False)
        self.judged(told + told, False)

    def test_of_another_table(self):
        self.judged(book(NETLIKE), False, NETLIKE[:2])
        self.judged(book(NETLIKE[:2]), False, NETLIKE)
        self.judged(book([[1], [0]]), False, [[1], [1], [1]])
        self.judged(book([[1], [-1]]), False, [[1], [1]])

    def test_of_a_table_without_a_book(self):
        for signs in choices((1, -1), repeat=3):
            told = [(rows, signs_for(RING, rows)) for rows in all_picks(3)[:-1]]
            self.judged(told + [([0, 1, 2], list(signs))], False, RING)
            self.judged(told, False, RING)

    def test_with_another_row(self):
        for at, (rows, signs) in enumerate(book(self.table)):
            for spot in range(len(rows)):
                for place in (-1, 3, LONG, *NO_PLACES):
                    other = list(rows)
                    other[spot] = place
                    self.judged(self.otherwise(at, (other, signs)), False)
        self.judged(self.otherwise(3, ([1, 0], [1, 1])), False)
        self.judged(self.otherwise(3, ([0, 0], [1, -1])), False)

    def test_with_another_sign(self):
        for at, (rows, signs) in enumerate(book(self.table)):
            for spot in range(len(rows)):
                for sign in (0, 2, -2, 3, LONG, *NO_PLACES):
                    other = list(signs)
                    other[spot] = sign
                    self.judged(self.otherwise(at, (rows, other)), False)
            self.judged(self.otherwise(at, (rows, signs + [1])), False)
            self.judged(self.otherwise(at, (rows, signs[:-1])), False)
        noughts = [[0], [0]]
        for sign in (0, True, 2, None):
            self.judged([([0], [sign]), ([1], [1]), ([0, 1], [1, 1])], False, noughts)
        self.judged([([0], [-1]), ([1], [1]), ([0, 1], [-1, 1])], True, noughts)

    def test_with_things_of_other_kinds(self):
        for at, (rows, signs) in enumerate(book(self.table)):
            for thing in NO_LISTS:
                self.judged(self.otherwise(at, (thing, signs)), False)
                self.judged(self.otherwise(at, (rows, thing)), False)
                self.judged(self.otherwise(at, thing), False)
            for page in ([rows, signs], (rows,), (rows, signs, 1), (tuple(rows), signs), (rows, tuple(signs))):
                self.judged(self.otherwise(at, page), False)

    def test_of_anything(self):
        told = book(self.table)
        for thing in [*NO_LISTS, set(), tuple(told), {0: told}, [told], "1" * 7, [1] * 7, [None] * 7, [Odd()] * 7]:
            self.judged(thing, False)

    def test_what_is_no_table_is_refused_ahead(self):
        for thing in NO_TABLES:
            for told in ([([0], [1])], [], None, Odd()):
                raised(BadTable, is_book, thing, told)
                raised(BadTable, is_book, thing=told, table=thing)


class Unimodular(unittest.TestCase):
    def test_just_where_each_square_says_so_and_each_pick_has_right_signs(self):
        found = {True: 0, False: 0}
        for table in [*small_tables(), *some_tables(40, -1, 1, 61)]:
            wanted = is_sound(table)
            self.assertIs(is_unimodular(table), wanted)
            self.assertIs(is_unimodular(table=table), wanted)
            self.assertEqual(all(signs_for(table, rows) is not None for rows in all_picks(len(table))), wanted)
            self.assertIs(is_unimodular(turned(table)), wanted)
            found[wanted] += 1
        self.assertGreater(min(found.values()), 60)

    def test_great_tables(self):
        for table in [*some_nets(6, 62), *some_stretches(6, 63), *sound_tables(40, 64)]:
            self.assertIs(is_unimodular(table), True)
            self.assertIs(is_unimodular(turned(table)), True)
        for size in range(2, 9):
            places = list(range(8 - size, 8))
            table = amid_noughts(ring(size) if size > 2 else [[1, 1], [1, -1]], places, places)
            self.assertIs(is_unimodular(table), False)
            table[places[0]][places[1]] = 0
            self.assertIs(is_unimodular(table), True)

    def test_pieces_and_signs_and_pivots(self):
        for table in small_tables():
            wanted = is_unimodular(table)
            self.assertIs(is_unimodular(signed_by(table, [len(table) - 1], [0])), wanted)
            for row, entries in enumerate(table):
                for column, entry in enumerate(entries):
                    if entry in (1, -1):
                        self.assertIs(is_unimodular(pivoted(table, row, column)), wanted)
            if wanted:
                for rows in all_picks(len(table)):
                    self.assertIs(is_unimodular(piece(table, rows, list(range(len(table[0]))))), True)

    def test_the_rows_of_the_refusal_are_those_of_the_least_bad_square(self):
        chance = Random(65)
        tables = [*small_tables(), *some_tables(60, -1, 1, 66)]
        for size in range(3, 9):
            up, across = chance.choice(picks(8, size)), chance.choice(picks(8, size))
            tables.append(amid_noughts(ring(size), up, across))
        for table in tables:
            bad = bad_square(table)
            self.assertIs(is_unimodular(table), bad is None)
            if bad is None:
                self.assertIs(is_book(table, book(table)), True)
            else:
                self.assertEqual(raised(NotWhole, book, table).rows, bad[0])
        self.assertEqual(raised(NotWhole, book, tables[-1]).rows, slow_bad_square(tables[-1])[0])

    def test_what_is_no_table_is_refused(self):
        for thing in NO_TABLES:
            raised(BadTable, is_unimodular, thing)
            raised(BadTable, is_unimodular, table=thing)


class Kept(unittest.TestCase):
    def test_what_is_handed_in_stays_and_what_is_told_is_new(self):
        table, rows = deepcopy(NETLIKE), [0, 2]
        signs, told = signs_for(table, rows), book(table)
        first = deepcopy((signs, told))
        signs.append(7)
        for page in told:
            page[0].append(7)
            page[1][0] = 7
        told.append("spoilt")
        self.assertEqual((signs_for(table, rows), book(table)), first)
        self.assertTrue(is_book(table, first[1]))
        self.assertTrue(is_unimodular(table))
        self.assertEqual((table, rows, first[1]), (NETLIKE, [0, 2], book(NETLIKE)))

    def test_rows_told_are_not_those_handed_in_nor_those_of_the_table(self):
        one = [1]
        table = [one]
        told = book(table) + [([0], signs_for(table, one[1:] or [0]))]
        for rows, signs in told:
            rows[0] = signs[0] = 9
        self.assertEqual(table, [[1]])

    def test_the_rows_of_a_refusal_are_its_own(self):
        raised(NotWhole, book, RING).rows.append(9)
        self.assertEqual(raised(NotWhole, book, RING).rows, [0, 1, 2])

    def test_a_table_that_is_changed_and_changed_back(self):
        table = deepcopy(NETLIKE)
        told = book(table)
        table[0][2] = 1
        self.assertFalse(is_unimodular(table))
        self.assertFalse(is_book(table, told))
        self.assertEqual(raised(NotWhole, book, table).rows, [0, 1, 2])
        self.assertIsNone(signs_for(table, [0, 1, 2]))
        table[0][2] = -1
        self.assertTrue(is_unimodular(table))
        self.assertEqual(book(table), told)


if __name__ == "__main__":
    unittest.main()
