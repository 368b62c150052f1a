"""Points [1] to [4], over the whole program: what is kept, what is new, what is refused, and what goes together."""

import inspect
import unittest
from copy import deepcopy
from fractions import Fraction
from itertools import permutations
from random import Random

from calls import CALLS, OTHERS, RING, SOUND, TABLES
from nets import all_some_nets
from samples import (
    NO_TABLES, Odd, all_tables, is_sound, raised, slow_bad_square, some_fractions, some_nets, some_stretches,
    some_tables, some_wholes, sound_tables,
)
from signbook import errors
from signbook.errors import BadTable, NotWhole
from signbook.nets import as_net, net_table
from signbook.packing import bought, crossing, packed
from signbook.parting import halved, parted, spread
from signbook.programs import best, corners, is_answer, priced, unwhole, within
from signbook.rounding import rounded, unrounded
from signbook.seven import signed
from signbook.signs import book, is_book, is_unimodular
from signbook.squares import bad_square, is_bad_square
from signbook.standing import together
from signbook.sums import beside, parts, three_sum, two_sum
from signbook.tables import is_table, pivoted, signed_by, turned
from tasks import LONG, holds, total, whole_numbers

ALL = CALLS + OTHERS

# More things that are no tables: deeper nests, rows amid right ones, and things that can't be hashed.
MORE = [
    *NO_TABLES, Odd(), [Odd()], [[Odd()]], [[1, 0], [0, Odd()]], [[[1]], [[1]]], [[1, 0], [[0], 1]], [[1, 0], "10"],
    [[1, 0], {0: 1, 1: 0}], [[1, 0], {0, 1}], [[1, 0], range(2)], [[1, 0], [0, 1], [1]], [[1, 0], [0, 1], [1, 0, 1]],
    [[1, 0], []], [[], [1, 0]], [[1, 0], [0, (1, 2)]], [[1, 0], [0, None]], [[1, 0], [False, 1]], [[True]],
    {"rows": [[1]]}, [[1] * 8] * 9, [[1] * 9] * 8, [[0]] * 9, range(3), iter([[1]]), [[1, {}]], [[1, []]], [[1, {1}]],
]


def lists_in(thing):
    """Tell all lists in a thing, itself among them, once for each time that they stand there."""
    told = [thing] if isinstance(thing, list) else []
    if isinstance(thing, (list, tuple)):
        for inner in thing:
            told += lists_in(inner)
    return told


def by_name(call, given, named):
    """Tell the arguments by their names."""
    return {**dict(zip(inspect.signature(call).parameters, given)), **named}


def named(call):
    return call.__module__ + "." + call.__name__


class Kept(unittest.TestCase):
    def test_all_functions_of_the_interface_are_asked(self):
        from test_form import INTERFACE
        wanted = {f"{path}.{name}" for path, names in INTERFACE.items() for name in names
                  if path != "signbook.fractions" and name not in ("is_table", "Desk")}
        self.assertEqual({named(call) for call, _, _ in ALL}, wanted)

    def test_what_is_handed_in_stays(self):
        for call, given, more in ALL:
            handed = deepcopy((given, more))
            call(*handed[0], **handed[1])
            self.assertEqual(handed, (given, more), named(call))

    def test_no_list_told_stands_in_another_one_or_in_one_handed_in(self):
        for call, given, more in ALL:
            handed = deepcopy((given, more))
            one, other = call(*handed[0], **handed[1]), call(*handed[0], **handed[1])
            lists = lists_in(one) + lists_in(other)
            self.assertEqual(len({id(thing) for thing in lists}), len(lists), named(call))
            self.assertFalse({id(thing) for thing in lists} & {id(thing) for thing in lists_in(handed[0])}, named(call))

    def test_a_mark_put_into_each_told_list_in_turn(self):
        for call, given, more in ALL:
            handed = deepcopy((given, more))
            wanted = call(*handed[0], **handed[1])
            for at in range(len(lists_in(wanted))):
                told = call(*handed[0], **handed[1])
                self.assertEqual(told, wanted, named(call))
                lists_in(told)[at].append("mark")
                marked = [thing for thing in lists_in(told) if "mark" in thing]
                self.assertEqual(len(marked), 1, named(call))
                self.assertEqual(handed, (given, more), named(call))
            self.assertEqual(call(*handed[0], **handed[1]), wanted, named(call))

    def test_a_told_refusal_is_the_askers_own(self):
        told = raised(NotWhole, book, RING)
        told.rows.append("mark")
        self.assertEqual(raised(NotWhole, book, RING).rows, [0, 1, 2])

    def test_arguments_by_their_names_in_any_order(self):
        for call, given, more in ALL:
            wanted = call(*deepcopy(given), **more)
            for order in permutations(by_name(call, given, more).items()):
                self.assertEqual(call(**deepcopy(dict(order))), wanted, named(call))

    def test_equal_tables_have_equal_answers(self):
        for call, given, more in ALL:
            wanted = call(*given, **more)
            self.assertEqual(call(*deepcopy(given), **deepcopy(more)), wanted, named(call))
            self.assertEqual(repr(call(*given, **more)), repr(wanted), named(call))

    def test_questions_of_other_tables_in_between(self):
        alone = [call(*given, **more) for call, given, more in ALL]
        chance = Random(951)
        order = list(range(len(ALL))) * 3
        chance.shuffle(order)
        for at in order:
            call, given, more = ALL[at]
            self.assertEqual(call(*given, **more), alone[at], named(call))

    def test_a_table_with_one_row_twice_as_one_object(self):
        row = [1, 0, 1]
        once, twice = [[1, 0, 1], [1, 0, 1], [0, 1, 1]], [row, row, [0, 1, 1]]
        self.assertTrue(is_table(twice))
        for call, given, more in CALLS:
            if len(given) == 1:
                wanted = self.answer(call, once)
                told = self.answer(call, twice)
                self.assertEqual(told, wanted, named(call))
                lists = lists_in(told)
                self.assertEqual(len({id(thing) for thing in lists}), len(lists), named(call))
        self.assertEqual(twice, once)
        self.assertIs(twice[0], twice[1])

    def answer(self, call, table):
        try:
            return call(table)
        except errors.SignError as refusal:
            return type(refusal), vars(refusal)

    def test_a_table_changed_and_changed_back(self):
        for call, given, more in CALLS:
            table = deepcopy(given[0])
            wanted = call(table, *given[1:], **more)
            for change in (5, -1, 0):
                ahead = table[0][0]
                table[0][0] = change
                fresh = deepcopy(table)
                self.assertEqual(
                    self.told(call, table, *given[1:], **more), self.told(call, fresh, *given[1:], **more), named(call)
                )
                table[0][0] = ahead
                self.assertEqual(call(table, *given[1:], **more), wanted, named(call))

    def told(self, call, *given, **more):
        try:
            return call(*given, **more)
        except errors.SignError as refusal:
            return type(refusal), vars(refusal)


class Refused(unittest.TestCase):
    def test_what_is_no_table_at_each_place_of_a_table(self):
        for call, given, more in CALLS:
            right = by_name(call, given, more)
            places = [name for name in right if name in TABLES]
            self.assertTrue(places, named(call))
            for place in places:
                for thing in MORE:
                    raised(BadTable, call, **{**right, place: thing})
                    given_too = [thing if name == place else value for name, value in right.items() if name not in more]
                    raised(BadTable, call, *given_too, **more)

    def test_ahead_of_all_else(self):
        for call, given, more in CALLS:
            right = by_name(call, given, more)
            for thing in (None, [], [[1], [1, 0]], [[True]], Odd()):
                for other in (None, Odd(), [], -1, "x", [[9] * 8] * 8):
                    wrong = {name: thing if name in ("table", "one") else other for name in right}
                    raised(BadTable, call, **wrong)
                for other in ([[9] * 8] * 8, [[1]]):
                    if "other" in right:
                        raised(BadTable, call, one=other, other=thing)

    def test_each_refusal_is_straight_under_the_one_of_all(self):
        for name, kind in vars(errors).items():
            if isinstance(kind, type) and kind is not errors.SignError:
                self.assertEqual(kind.__bases__, (errors.SignError,), name)
        self.assertEqual(errors.SignError.__bases__, (ArithmeticError,))


class Papers(unittest.TestCase):
    """Of one table all papers say the same."""

    def tables(self, seed, many=60):
        yield from all_tables(2, 2, (-1, 0, 1, 2))
        yield from some_tables(many, -1, 1, seed)
        yield from some_tables(many // 3, 0, 1, seed)
        yield from some_tables(many // 6, -LONG, LONG, seed)
        yield from sound_tables(many, seed)

    def test_all_papers_say_the_same(self):
        seen = {True: 0, False: 0}
        for table in self.tables(961):
            wanted = slow_bad_square(table) is None
            seen[wanted] += 1
            self.assertIs(is_unimodular(table), wanted)
            self.assertEqual(bad_square(table) is None, wanted)
            self.assertEqual(unwhole(table) is None, wanted)
            self.assertEqual(unrounded(table) is None, wanted)
            if wanted:
                self.assertTrue(is_book(table, book(table)))
            else:
                self.check_broken(table)
        self.assertGreater(min(seen.values()), 90)

    def check_broken(self, table):
        bad = bad_square(table)
        self.assertTrue(is_bad_square(table, bad))
        self.assertEqual(raised(NotWhole, book, table).rows, bad[0])
        self.assertIsNone(rounded(table, unrounded(table)))
        bounds, gains, x = unwhole(table)
        self.assertTrue(within(table, bounds, x))
        told = best(table, bounds, gains)
        self.assertEqual((told[0], told[2]), ("best", x))
        self.assertFalse(whole_numbers(told))
        self.assertTrue(is_answer(table, bounds, gains, told))

    def test_what_holds_of_unimodular_tables(self):
        chance = Random(962)
        for table in sound_tables(60, 963):
            rows, columns = len(table), len(table[0])
            bounds, gains = some_wholes(rows, chance, 6), some_wholes(columns, chance, 6)
            told = best(table, bounds, gains)
            self.assertTrue(holds(table, bounds, gains, told))
            self.assertTrue(whole_numbers(told))
            self.assertTrue(whole_numbers(best(*priced(table, bounds, gains))))
            self.assertIsNotNone(rounded(table, some_fractions(columns, chance.random())))
            self.assertIsNotNone(halved(table, some_wholes(columns, chance, 9)))
            far, _ = spread(table)
            self.assertEqual(far, int(any(sum(row) % 2 for row in table)))
            small = [row[:4] for row in table[:6]]
            for corner in corners(small, bounds[:6]):
                self.assertTrue(all(bottom == 1 for _, bottom in corner))
            xs, many = [chance.randint(0, 4) for _ in small[0]], chance.randint(1, 4)
            kept = [-(-total(row, xs) // many) for row in small]
            self.assertIsNotNone(parted(small, kept, xs, many=many))
            ones = [[abs(entry) for entry in row[:5]] for row in table[:5]]
            self.assertEqual(signed(ones)[0], "signed")
            if is_unimodular(ones):
                worths = [chance.randint(0, 3) for _ in ones[0]]
                packing, cover = packed(ones)
                self.assertEqual(len(packing), len(cover))
                columns_bought, copies = bought(ones, worths)
                self.assertEqual(sum(worths[at] for at in columns_bought), sum(copies))

    def test_what_fails_of_all_others(self):
        for table in [*all_tables(2, 2, (-1, 0, 1, 2)), *some_tables(60, -1, 1, 964)]:
            if not is_unimodular(table):
                bounds, gains, x = unwhole(table)
                small = [row[:4] for row in table[:6]]
                if small == table:
                    self.assertIn(x, corners(table, bounds))
                self.assertTrue(any(bottom != 1 for _, bottom in x))
                self.assertIsNone(rounded(table, unrounded(table)))

    def test_what_makes_of_a_unimodular_table_one_again(self):
        chance = Random(965)
        for table, other in zip(sound_tables(50, 966), sound_tables(50, 967)):
            for told in (turned(table), signed_by(table, [0], [len(table[0]) - 1])):
                self.assertTrue(is_unimodular(told))
            row = chance.randrange(len(table))
            columns = [column for column, entry in enumerate(table[row]) if entry]
            if columns:
                self.assertTrue(is_unimodular(pivoted(table, row, chance.choice(columns))))
            one, other = [row[:4] for row in table[:4]], [row[:4] for row in other[:4]]
            self.assertTrue(is_unimodular(beside(one, other)))
            self.assertTrue(is_unimodular(two_sum(one, other)))

    def test_nets_and_ones_that_stand_together(self):
        for ends, arcs in all_some_nets(20, 968):
            self.assertTrue(is_unimodular(net_table(ends, arcs)))
        for table in some_stretches(20, 969, 8, 7):
            self.assertIsNotNone(together(table))
            self.assertTrue(is_sound(table))
        for table in some_nets(20, 970, 5, 8):
            self.assertIsNotNone(as_net(table))
        for table in [[[1, 1], [1, 1]], [[1, 0], [1, 1], [0, 1]]]:
            self.assertTrue(is_unimodular(crossing(table)))

    def test_a_block_of_its_own_changes_nothing(self):
        for table in [*some_tables(30, -1, 1, 971), *sound_tables(30, 972)]:
            small = [row[:7] for row in table[:7]]
            self.assertEqual(is_unimodular(beside(small, [[1]])), is_unimodular(small))
            self.assertEqual(len(parts(beside(small, [[1]]))), len(parts(small)) + 1)
            self.assertFalse(is_unimodular(beside([[2]], small)))

    def test_a_sum_of_three_made_of_nets(self):
        one, other = [[1, 1, 1], [1, 0, 1]], [[1, 0, 1], [1, 1, 1]]
        self.assertTrue(is_unimodular(one) and is_unimodular(other))
        self.assertEqual(three_sum(one, other), [[1, 1], [1, 1]])


class ByTurns(unittest.TestCase):
    def test_questions_of_several_unlike_tables_by_turns(self):
        chance = Random(981)
        tables = [*some_tables(12, -1, 1, 982), *sound_tables(12, 983), RING, SOUND]
        questions = []
        for table in tables:
            bounds, gains = some_wholes(len(table), chance, 4), some_wholes(len(table[0]), chance, 4)
            xs = some_fractions(len(gains), chance.random())
            questions += [
                (is_unimodular, (table,)), (bad_square, (table,)), (best, (table, bounds, gains)), (unwhole, (table,)),
                (rounded, (table, xs)), (halved, (table, gains)), (spread, (table,)), (parts, (table,)),
                (unrounded, (table,)),
            ]
        alone = [call(*deepcopy(given)) for call, given in questions]
        for _ in range(3):
            order = list(range(len(questions)))
            chance.shuffle(order)
            for at in order:
                call, given = questions[at]
                self.assertEqual(call(*given), alone[at], named(call))

    def test_fractions_are_in_lowest_terms(self):
        for table in some_tables(40, -3, 3, 984):
            for fraction in best(table, [1] * len(table), [1] * len(table[0]))[-1]:
                top, bottom = fraction
                self.assertEqual((Fraction(top, bottom).numerator, Fraction(top, bottom).denominator), fraction)


if __name__ == "__main__":
    unittest.main()
