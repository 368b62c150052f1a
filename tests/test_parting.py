"""Points [2], [4] and [29]: lists of whole numbers parted within bounds."""

import unittest
from copy import deepcopy
from itertools import product as choices
from random import Random

from samples import NO_LISTS, NO_TABLES, NO_WHOLES, Odd, all_tables, raised, ring, some_tables, sound_tables
from signbook.errors import BadTable, NoPart, TooMany
from signbook.parting import parted
from tasks import LONG, check_refused, total, wrong_lists

ROW = [[1, 1]]


def keeps(table, bounds, xs):
    """Tell whether whole numbers, none below nought, are within the bounds."""
    return all(total(row, xs) <= bound for row, bound in zip(table, bounds))


def less(xs, part):
    """Tell what is left of the xs without a part."""
    return tuple(x - taken for x, taken in zip(xs, part))


def slow_parted(table, bounds, xs, many):
    """Tell the first of all sorted ways to take that many fitting lists out of the xs, by what can be made of fewer."""
    fitting = [part for part in choices(*[range(x + 1) for x in xs]) if keeps(table, bounds, part)]
    made = [{tuple(0 for _ in xs)}]
    for _ in range(many):
        made.append({
            whole for whole in (tuple(a + b for a, b in zip(one, other)) for one in made[-1] for other in fitting)
            if all(number <= x for number, x in zip(whole, xs))
        })
    if tuple(xs) not in made[many]:
        return None
    told, rest = [], tuple(xs)
    for left in reversed(range(many)):
        part = next(part for part in fitting if less(rest, part) in made[left])
        told.append(list(part))
        rest = less(rest, part)
    return told


def slowest_parted(table, bounds, xs, many):
    """Tell the least of all lists of that many lists that add up to the xs, each within the bounds."""
    lists = [list(part) for part in choices(*[range(x + 1) for x in xs]) if keeps(table, bounds, part)]
    for parts in choices(lists, repeat=many):
        if [sum(numbers) for numbers in zip(*parts)] == list(xs):
            return list(parts)
    return None


def tight_bounds(table, xs, many):
    """Tell the least whole bounds that many times are no less than the rows' sums."""
    return [-(-total(row, xs) // many) for row in table]


class Parted(unittest.TestCase):
    def check(self, table, bounds, xs, many):
        wanted = slow_parted(table, bounds, xs, many)
        told = parted(table, bounds, xs, many=many)
        self.assertEqual(told, wanted)
        if told is not None:
            self.assertEqual(len(told), many)
            self.assertEqual([sum(numbers) for numbers in zip(*told)], xs)
            for part in told:
                self.assertTrue(keeps(table, bounds, part) and min(part) >= 0)
                self.assertTrue(all(type(number) is int for number in part))
        return told is not None

    def test_some(self):
        self.assertEqual(parted(ROW, [2], [2, 2], many=2), [[0, 2], [2, 0]])
        self.assertEqual(parted(ROW, [3], [2, 2], many=2), [[0, 1], [2, 1]])
        self.assertEqual(parted(ROW, [4], [2, 2], many=2), [[0, 0], [2, 2]])
        self.assertEqual(parted([[1, 1], [1, 0]], [2, 1], [2, 2], many=2), [[1, 1], [1, 1]])
        self.assertEqual(parted([[1]], [1], [3], many=4), [[0], [1], [1], [1]])
        self.assertEqual(parted([[2]], [3], [3], many=2), None)
        self.assertEqual(parted([[-1]], [-1], [4], many=3), [[1], [1], [2]])
        self.assertEqual(parted([[0, 0]], [0], [4, 4], many=1), [[4, 4]])
        self.assertEqual(parted(ring(3), [1, 1, 1], [1, 1, 1], many=2), None)
        self.assertEqual(parted(ring(3), [1, 1, 1], [1, 1, 1], many=3), [[0, 0, 1], [0, 1, 0], [1, 0, 0]])

    def test_noughts_and_fours(self):
        for columns in range(1, 5):
            for many in range(1, 5):
                noughts, fours = [0] * columns, [4] * columns
                table = [[1] * columns]
                self.assertEqual(parted(table, [0], noughts, many=many), [noughts] * many)
                self.assertEqual(parted(table, [16], fours, many=many), [noughts] * (many - 1) + [fours])
                self.assertEqual(parted([[-1] * columns], [0], fours, many=many), [noughts] * (many - 1) + [fours])
                self.check(table, [-(-4 * columns // many)], fours, many)

    def test_the_least_of_all_lists_of_lists(self):
        found = {True: 0, False: 0}
        chance = Random(201)
        tables = [*all_tables(1, 2, (-2, -1, 0, 1, 3)), *all_tables(2, 2, (-1, 1, 2)), *some_tables(40, -2, 2, 202)]
        for table in tables:
            table = [row[:3] for row in table]
            xs = [chance.randint(0, 2) for _ in table[0]]
            for many in (1, 2, 3):
                bounds = tight_bounds(table, xs, many)
                wanted = slowest_parted(table, bounds, xs, many)
                self.assertEqual(parted(table, bounds, xs, many=many), wanted)
                self.assertEqual(slow_parted(table, bounds, xs, many), wanted)
                found[wanted is not None] += 1
        self.assertGreater(min(found.values()), 20)

    def test_small_tables_of_one_to_four_columns(self):
        found = {True: 0, False: 0}
        chance = Random(203)
        for low, high in ((-1, 1), (0, 1), (-3, 3)):
            for table in some_tables(70, low, high, 204):
                table = [row[:4] for row in table]
                xs = [chance.randint(0, 3 if len(table[0]) > 3 else 4) for _ in table[0]]
                many = chance.randint(1, 4)
                bounds = tight_bounds(table, xs, many)
                found[self.check(table, bounds, xs, many)] += 1
                loose = [bound + chance.randint(0, 2) for bound in bounds]
                found[self.check(table, loose, xs, many)] += 1
        self.assertGreater(min(found.values()), 60)

    def test_of_a_unimodular_table_there_always_is_one(self):
        chance = Random(205)
        for table in sound_tables(60, 206):
            table = [row[:4] for row in table]
            for many in range(1, 5):
                xs = [chance.randint(0, 3) for _ in table[0]]
                self.assertTrue(self.check(table, tight_bounds(table, xs, many), xs, many))

    def test_in_good_time(self):
        for table in (
            [[3, -2, 1, -1]] * 8, [[2, 2, -3, -3]], [[1] * 4] * 8,
            [[-1, 1, 0, 0], [0, -1, 1, 0], [1, 0, -1, 0]],
        ):
            for many in range(1, 5):
                self.check(table, tight_bounds(table, [4] * 4, many), [4] * 4, many)
        # Each part must have one of the first column, of which there are three: but for that, nearly all would do.
        self.assertFalse(self.check([[2, 0, 0, 0], [-2, 0, 0, 0]], [3, -1], [3, 4, 4, 4], 4))
        self.assertFalse(self.check([[2, 2, 2, 2], [-2, -2, -2, -2]], [9, -7], [4, 4, 4, 3], 4))

    def test_bounds_of_up_to_forty_figures(self):
        self.assertEqual(parted(ROW, [LONG], [3, 4], many=3), [[0, 0], [0, 0], [3, 4]])
        self.assertEqual(parted([[LONG]], [LONG], [4], many=4), [[1]] * 4)
        self.assertEqual(parted([[LONG]], [LONG - 1], [0], many=4), [[0]] * 4)
        self.assertEqual(parted([[-LONG, 1]], [1 - LONG], [4, 2], many=4), [[1, 0], [1, 0], [1, 1], [1, 1]])
        raised(NoPart, parted, [[-LONG, 1]], [-LONG], [4, 2], many=4)
        self.assertEqual(parted([[-LONG, 0]], [-LONG], [4, 2], many=4), [[1, 0], [1, 0], [1, 0], [1, 2]])
        self.assertEqual(parted([[LONG, -LONG]], [0], [2, 3], many=2), [[0, 0], [2, 3]])
        raised(NoPart, parted, [[LONG]], [LONG - 1], [4], many=4)
        raised(NoPart, parted, ROW, [-LONG], [4, 4], many=4)

    def test_arguments_by_name(self):
        wanted = [[0, 2], [2, 0]]
        self.assertEqual(parted(many=2, xs=[2, 2], bounds=[2], table=ROW), wanted)
        self.assertEqual(parted(ROW, many=2, bounds=[2], xs=[2, 2]), wanted)
        with self.assertRaises(TypeError):
            parted(ROW, [2], [2, 2], 2)


class Refused(unittest.TestCase):
    def test_what_is_no_table_ahead_of_all_else(self):
        for thing in NO_TABLES:
            raised(BadTable, parted, thing, [1], [1], many=1)
            raised(BadTable, parted, thing, None, Odd(), many=5)

    def test_what_is_no_list_of_bounds(self):
        for thing in wrong_lists([1, -2, 3]):
            for xs, many in (([1, 0], 2), (None, None), ([9], 0)):
                check_refused("bounds", parted, [[1, 0], [0, 1], [1, 1]], thing, xs, many=many)
        check_refused("bounds", parted, [[1] * 5], [], [5], many=5)

    def test_what_is_no_list_of_xs(self):
        table, bounds = [[1, 0, 1], [0, 1, 1]], [9, 9]
        wrong = [*wrong_lists([1, 0, 4]), *([1, at, 1] for at in (-1, 5, LONG, -LONG)), [5, 0, 0], [0, 0, -1]]
        for thing in wrong:
            for many in (2, 0, None, Odd()):
                check_refused("xs", parted, table, bounds, thing, many=many)
        check_refused("xs", parted, [[1] * 5], [9], [1] * 4, many=2)
        check_refused("xs", parted, [[1] * 5], [0], [1, 1, 1, 1, 5], many=2)

    def test_what_is_no_many(self):
        for thing in [*NO_WHOLES, (1, 1), 0, 5, -1, LONG, -LONG]:
            check_refused("many", parted, ROW, [4], [1, 1], many=thing)
            check_refused("many", parted, [[1] * 5], [-4], [1] * 5, many=thing)

    def test_more_than_four_columns(self):
        for columns in range(5, 9):
            for bound in (9, -9):
                told = raised(TooMany, parted, [[1] * columns] * 2, [bound] * 2, [1] * columns, many=3)
                self.assertEqual(told.many, 4)

    def test_xs_that_are_not_within_many_times_the_bounds(self):
        chance = Random(207)
        refused = 0
        for table in some_tables(150, -2, 2, 208):
            table = [row[:4] for row in table]
            xs, many = [chance.randint(0, 2) for _ in table[0]], chance.randint(1, 4)
            bounds = tight_bounds(table, xs, many)
            self.check_not_refused(table, bounds, xs, many)
            at = chance.randrange(len(bounds))
            bounds[at] -= 1
            raised(NoPart, parted, table, bounds, xs, many=many)
            raised(NoPart, parted, many=many, bounds=bounds, table=table, xs=xs)
            refused += 1
        self.assertEqual(refused, 150)

    def check_not_refused(self, table, bounds, xs, many):
        told = parted(table, bounds, xs, many=many)
        self.assertTrue(told is None or len(told) == many)


class Kept(unittest.TestCase):
    def test_what_is_handed_in_stays_and_what_is_told_is_new(self):
        table, bounds, xs = [[1, 1, 0], [0, 1, 1]], [2, 2], [2, 1, 3]
        for many in (2, 3, 4):
            as_it_was = deepcopy((table, bounds, xs))
            told = parted(table, bounds, xs, many=many)
            again = deepcopy(told)
            for part in told:
                part[0] = "spoilt"
            told.append("spoilt")
            self.assertEqual((table, bounds, xs), as_it_was)
            self.assertEqual(parted(table, bounds, xs, many=many), again)

    def test_no_told_list_stands_in_another_one_or_in_one_handed_in(self):
        for xs in ([0, 0], [4, 4]):
            for many in (1, 4):
                told = parted(ROW, [8], xs, many=many)
                lists = [*told, told, xs]
                self.assertEqual(len({id(thing) for thing in lists}), many + 2)

    def test_what_is_changed_and_changed_back(self):
        table, bounds, xs = [[1, 1]], [2], [2, 2]
        self.assertEqual(parted(table, bounds, xs, many=2), [[0, 2], [2, 0]])
        table[0][1] = 0
        self.assertEqual(parted(table, bounds, xs, many=2), [[0, 0], [2, 2]])
        table[0][1] = 1
        bounds[0] = 3
        self.assertEqual(parted(table, bounds, xs, many=2), [[0, 1], [2, 1]])
        bounds[0] = 2
        xs[0] = 1
        self.assertEqual(parted(table, bounds, xs, many=2), [[0, 1], [1, 1]])
        xs[0] = 2
        self.assertEqual(parted(table, bounds, xs, many=2), [[0, 2], [2, 0]])


if __name__ == "__main__":
    unittest.main()
