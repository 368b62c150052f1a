"""Points [2], [4] and [20] to [23]: what is within bounds, the best of it, and the task of its prices."""

import unittest
from copy import deepcopy
from fractions import Fraction
from itertools import product as choices
from random import Random

from samples import (
    NO_FRACTIONS, NO_LISTS, NO_TABLES, Odd, pairs, raised, ring, some_nets, some_stretches, some_tables,
    some_wholes,
)
from signbook.errors import BadTable
from signbook.programs import best, is_answer, priced, within
from signbook.signs import is_unimodular
from signbook.tables import is_table, turned
from tasks import (
    LONG, UNFIT, amounts, check_refused, fits, holds, mild_tasks, some_tasks, sound_tasks, total, whole_numbers,
    wrong_lists,
)

RING = ring(3)
TASK = ([[1, 1], [1, 0], [0, 2]], [4, 3, 5], [2, 1])
HALVES = [Fraction(top, 2) for top in range(-1, 4)]


class Within(unittest.TestCase):
    def judged(self, table, bounds, xs, wanted):
        self.assertIs(within(table, bounds, xs), wanted, repr(xs))
        self.assertIs(within(xs=xs, bounds=bounds, table=table), wanted, repr(xs))

    def test_within_just_at_and_beyond_a_bound(self):
        table, bounds = [[1, 2], [-1, 3]], [4, 1]
        self.judged(table, bounds, [(0, 1), (0, 1)], True)
        self.judged(table, bounds, [(1, 1), (1, 2)], True)
        self.judged(table, bounds, [(2, 1), (1, 1)], True)
        self.judged(table, bounds, [(4, 1), (0, 1)], True)
        self.judged(table, bounds, [(4, 1), (1, LONG)], False)
        self.judged(table, bounds, [(0, 1), (1, 3)], True)
        self.judged(table, bounds, [(0, 1), (LONG + 1, 3 * LONG)], False)
        self.judged(table, bounds, [(0, 1), (LONG, 3 * LONG + 1)], True)

    def test_bounds_below_nought(self):
        self.judged([[-1, 0]], [-2], [(2, 1), (0, 1)], True)
        self.judged([[-1, 0]], [-2], [(3, 2), (0, 1)], False)
        self.judged([[1, 0]], [-1], [(0, 1), (0, 1)], False)
        self.judged([[0, 0]], [0], [(LONG, 1), (1, LONG)], True)

    def test_none_below_nought(self):
        table, bounds = [[-1, 0, 1]], [5]
        for at in range(3):
            for below in ((-1, 1), (-1, LONG), (-LONG, 1)):
                xs = [(1, 1), (1, 1), (1, 1)]
                xs[at] = below
                self.judged(table, bounds, xs, False)

    def test_all_small_ones(self):
        for table, bounds in (([[1, 1], [1, -1]], [1, 0]), (RING, [1, 1, 1]), ([[2, -1, 0]], [1])):
            for values in choices(HALVES, repeat=len(table[0])):
                xs = pairs(values)
                self.judged(table, bounds, xs, fits(table, bounds, xs))

    def test_some_great_ones(self):
        chance = Random(71)
        told = {True: 0, False: 0}
        for table in some_tables(120, -LONG, LONG, 72):
            xs = [Fraction(chance.randint(0, LONG), chance.randint(1, LONG)) for _ in table[0]]
            bounds = [-(-total(row, xs) // 1) for row in table]
            for _ in range(2):
                wanted = all(total(row, xs) <= bound for row, bound in zip(table, bounds))
                self.judged(table, bounds, pairs(xs), wanted)
                told[wanted] += 1
                bounds[chance.randrange(len(bounds))] -= 1
        self.assertEqual(told, {True: 120, False: 120})

    def test_numbers_of_any_size(self):
        great = 10 ** 3000
        self.judged([[1, -1]], [1], [(great + 1, 1), (great, 1)], True)
        self.judged([[1, -1]], [1], [(great + 2, 1), (great, 1)], False)
        self.judged([[1, 1]], [1], [(1, great), (great - 1, great)], True)
        self.judged([[1, 1]], [1], [(1, great), (1, 1)], False)

    def test_what_is_no_list_of_fractions(self):
        table, bounds = [[0, 0, 0]], [0]
        for thing in [*NO_LISTS, [], [(0, 1)] * 2, [(0, 1)] * 4, tuple([(0, 1)] * 3), [[(0, 1)] * 3], "000"]:
            self.judged(table, bounds, thing, False)
        for at in range(3):
            for thing in NO_FRACTIONS:
                xs = [(0, 1), (1, 2), (3, 1)]
                xs[at] = thing
                self.judged(table, bounds, xs, False)

    def test_the_refusals(self):
        table, bounds = TASK[:2]
        for thing in NO_TABLES:
            for given in ((bounds, [(0, 1), (0, 1)]), (None, None), (Odd(), Odd())):
                raised(BadTable, within, thing, *given)
                raised(BadTable, within, xs=given[1], table=thing, bounds=given[0])
        for wrong in wrong_lists(bounds):
            for xs in ([(0, 1), (0, 1)], None, Odd()):
                check_refused("bounds", within, table, wrong, xs)
                check_refused("bounds", within, xs=xs, bounds=wrong, table=table)


class Best(unittest.TestCase):
    def answered(self, table, bounds, gains):
        told = best(table, bounds, gains)
        task = (table, bounds, gains)
        self.assertTrue(holds(table, bounds, gains, told), (task, told))
        self.assertIs(is_answer(table, bounds, gains, told), True, (task, told))
        return told

    def test_some(self):
        self.assertEqual(best([[1]], [3], [2]), ("best", (6, 1), [(3, 1)], [(2, 1)]))
        self.assertEqual(best([[2]], [3], [1]), ("best", (3, 2), [(3, 2)], [(1, 2)]))
        self.assertEqual(best([[1]], [3], [-2]), ("best", (0, 1), [(0, 1)], [(0, 1)]))
        self.assertEqual(best(*TASK), ("best", (7, 1), [(3, 1), (1, 1)], [(1, 1), (1, 1), (0, 1)]))
        self.assertEqual(best(RING, [1, 1, 1], [1, 1, 1])[1:3], ((3, 2), [(1, 2)] * 3))
        self.assertEqual(best([[1]], [-1], [1]), ("none", [(1, 1)]))
        self.assertEqual(best([[0]], [0], [1]), ("open", [(0, 1)], [(1, 1)]))
        self.assertEqual(best(gains=[1], bounds=[3], table=[[1]]), best([[1]], [3], [1]))

    def test_of_no_gain_at_all_the_best_is_nought(self):
        for table, bounds, gains in mild_tasks(20, 73):
            self.assertEqual(self.answered(table, bounds, [0] * len(gains))[:2], ("best", (0, 1)))

    def test_none_stands_ahead_of_open(self):
        self.assertEqual(self.answered([[1, 0]], [-1], [0, 1])[0], "none")
        self.assertEqual(self.answered([[1, 0]], [0], [0, 1])[0], "open")
        self.assertEqual(self.answered([[1, 0], [-1, 0]], [2, -3], [1, 1])[0], "none")
        self.assertEqual(self.answered([[1, 0], [-1, 0]], [3, -2], [1, 1])[0], "open")
        self.assertEqual(self.answered([[0, 0]], [-1], [0, 0])[0], "none")

    def test_bounds_below_nought_that_can_be_met(self):
        self.assertEqual(self.answered([[-1, 0], [1, 1]], [-2, 5], [-1, 1])[1], (1, 1))
        self.assertEqual(self.answered([[-1, -1], [1, 2]], [-3, 4], [1, 1])[1], (4, 1))
        self.assertEqual(self.answered([[-1, -1]], [-3], [1, 0])[0], "open")
        self.assertEqual(self.answered([[-1, -1], [1, 0], [0, 1]], [-3, 1, 1], [1, 1])[0], "none")

    def test_all_of_two_rows_and_columns(self):
        words = {"best": 0, "open": 0, "none": 0}
        for numbers in choices((-1, 0, 1), repeat=8):
            told = self.answered([list(numbers[:2]), list(numbers[2:4])], list(numbers[4:6]), list(numbers[6:]))
            words[told[0]] += 1
        self.assertEqual(sum(words.values()), 3 ** 8)
        self.assertGreater(min(words.values()), 900)

    def test_tasks_of_all_shapes(self):
        words = {"best": 0, "open": 0, "none": 0}
        tasks = [
            *some_tasks(400, 74), *mild_tasks(300, 75), *some_tasks(200, 76, 1), *some_tasks(100, 77, 9, -4, 4),
            *mild_tasks(100, 78, 0),
        ]
        for task in tasks:
            words[self.answered(*task)[0]] += 1
        self.assertGreater(min(words.values()), 100)

    def test_eight_rows_and_columns(self):
        chance = Random(79)
        for table in [*some_nets(20, 80), *some_stretches(20, 81), *([[1] * 8] * 7 + [row] for row in RING * 2)]:
            table = [list(row) + [1] * (8 - len(row)) for row in table]
            for most in (1, 5, LONG):
                bounds, gains = some_wholes(8, chance, most), some_wholes(8, chance, most)
                self.answered(table, bounds, gains)
                self.answered(table, [abs(bound) for bound in bounds], gains)

    def test_great_entries_and_bounds_and_gains(self):
        for task in [*some_tasks(60, 82, LONG, -LONG, LONG), *some_tasks(60, 83, LONG), *mild_tasks(60, 84, LONG)]:
            self.answered(*task)
        for size in range(1, 9):
            table = [[LONG if row == column else row - column for column in range(size)] for row in range(size)]
            self.answered(table, [LONG - 1] * size, [LONG] * size)

    def test_where_many_bounds_meet(self):
        for size in range(1, 9):
            table = [[int(row >= column) + int(row == 7) for column in range(size)] for row in range(8)]
            self.answered(table, [0] * 8, [1] * size)
            self.answered(table, [1] * 8, [1] * size)
        circling = [[1, -11, -5, 18], [1, -3, -1, 2], [1, 0, 0, 0]]
        self.assertEqual(self.answered(circling, [0, 0, 1], [10, -57, -9, -24])[1], (1, 1))
        twice = [[2, -11, -5, 18], [1, -3, -1, 2], [1, 0, 0, 0]]
        self.answered(twice, [0, 0, 1], [10, -57, -9, -24])

    def test_long_ways_of_steps(self):
        for size in range(2, 9):
            table = [
                [2 ** (row - column + 1) if column < row else int(column == row) for column in range(size)]
                for row in range(size)
            ]
            gains = [2 ** (size - 1 - column) for column in range(size)]
            told = self.answered(table, [5 ** (row + 1) for row in range(size)], gains)
            self.assertEqual(told[1], (5 ** size, 1))

    def test_of_a_unimodular_table_all_numbers_are_whole(self):
        words = {"best": 0, "open": 0, "none": 0}
        for table, bounds, gains in [*sound_tasks(150, 85), *sound_tasks(60, 86, LONG), *sound_tasks(60, 87, 1)]:
            for limits in (bounds, [abs(bound) for bound in bounds]):
                for wishes in (gains, [-abs(gain) for gain in gains], [abs(gain) for gain in gains]):
                    told = self.answered(table, limits, wishes)
                    self.assertTrue(whole_numbers(told), (table, limits, wishes, told))
                    words[told[0]] += 1
        self.assertGreater(min(words.values()), 100)

    def test_of_small_unimodular_tables_too(self):
        for table, bounds, gains in some_tasks(300, 88):
            table = [row[:4] for row in table[:4]]
            if is_unimodular(table):
                self.assertTrue(whole_numbers(self.answered(table, bounds[:4], gains[:4])))

    def test_no_whole_x_is_better(self):
        for table, bounds, gains in mild_tasks(60, 89):
            table, gains = [row[:3] for row in table], gains[:3]
            told = self.answered(table, bounds, gains)
            if told[0] == "best":
                for x in choices(range(4), repeat=len(gains)):
                    if fits(table, bounds, [(value, 1) for value in x]):
                        self.assertLessEqual(total(gains, x), Fraction(*told[1]))

    def test_the_refusals(self):
        table, bounds, gains = TASK
        for thing in NO_TABLES:
            for given in ((bounds, gains), (None, None), (Odd(), [])):
                for call in (best, priced):
                    raised(BadTable, call, thing, *given)
                    raised(BadTable, call, gains=given[1], bounds=given[0], table=thing)
        for wrong in wrong_lists(bounds):
            for wishes in (gains, None, [True, 1]):
                for call in (best, priced):
                    check_refused("bounds", call, table, wrong, wishes)
                    check_refused("bounds", call, gains=wishes, bounds=wrong, table=table)
        for wrong in wrong_lists(gains):
            for call in (best, priced):
                check_refused("gains", call, table, bounds, wrong)
                check_refused("gains", call, gains=wrong, bounds=bounds, table=table)


class Answers(unittest.TestCase):
    """What best tells, other right answers, and each of them with one thing otherwise."""

    def judged(self, task, answer):
        wanted = holds(*task, answer)
        told = is_answer(*task, answer)
        self.assertIs(told, wanted, (task, answer))
        named = dict(zip(("table", "bounds", "gains"), task))
        self.assertIs(is_answer(answer=answer, **named), wanted, (task, answer))
        return told

    def otherwise(self, answer):
        """Tell the answer with one thing otherwise."""
        yield from (answer + ((1, 1),), answer + (None,), answer[:-1], answer[1:], list(answer), (answer,), ())
        for word in ("best", "open", "none", "Best", "", None, True, 0, b"best", ["best"], ("best",), Odd()):
            yield (word, *answer[1:])
        for at in range(1, len(answer)):
            for thing in self.things_otherwise(answer[at]):
                yield (*answer[:at], thing, *answer[at + 1:])
        for one in range(1, len(answer)):
            for other in range(1, one):
                told = list(answer)
                told[one], told[other] = told[other], told[one]
                yield tuple(told)

    def things_otherwise(self, thing):
        yield from (*NO_LISTS, [])
        if isinstance(thing, tuple):
            value = Fraction(*thing)
            yield from pairs([value + 1, value - 1, -value, value * 2, value + Fraction(1, 2)])
            yield from (*NO_FRACTIONS, [thing], (2 * thing[0], 2 * thing[1]), (-thing[0], -thing[1]), list(thing))
            return
        yield from (thing + [(0, 1)], thing[:-1], tuple(thing), [thing], [Fraction(*value) for value in thing])
        for at, value in enumerate(thing):
            for other in self.things_otherwise(value):
                yield thing[:at] + [other] + thing[at + 1:]

    def test_what_best_tells_with_one_thing_otherwise(self):
        words = {"best": 0, "open": 0, "none": 0}
        tasks = [TASK, *some_tasks(24, 90), *mild_tasks(16, 91), *some_tasks(6, 92, LONG, -LONG, LONG)]
        for task in tasks:
            task = ([row[:4] for row in task[0][:4]], task[1][:4], task[2][:4])
            answer = best(*task)
            self.assertTrue(self.judged(task, answer))
            for other in self.otherwise(answer):
                self.judged(task, other)
            words[answer[0]] += 1
        self.assertGreater(min(words.values()), 4)

    def test_all_small_answers(self):
        found = {"best": 0, "open": 0, "none": 0}
        tasks = [
            ([[1, 1], [1, 0]], [1, 1], [1, 0]), ([[1, 1], [1, 1]], [1, 1], [1, 1]), ([[1, -1]], [1], [0, 0]),
            ([[1, -1]], [0], [1, -1]), ([[1, 0], [-1, 1]], [1, 0], [0, 1]), ([[2, 1]], [1], [2, 1]),
            ([[0, 0]], [0], [0, 0]), ([[1, -1]], [1], [0, 1]), ([[1, 0], [-1, 0]], [0, -1], [1, 1]),
            ([[0, 1]], [-1], [1, 1]), ([[-1, -1]], [-1], [-1, -1]), ([[1, 1], [-1, -1]], [1, -2], [0, 0]),
        ]
        for task in tasks:
            for xs in choices(pairs(HALVES), repeat=2):
                for prices in choices(pairs(HALVES), repeat=len(task[0])):
                    for value in pairs(HALVES):
                        found["best"] += self.judged(task, ("best", value, list(xs), list(prices)))
                    found["none"] += self.judged(task, ("none", list(prices)))
                for way in choices(pairs(HALVES), repeat=2):
                    found["open"] += self.judged(task, ("open", list(xs), list(way)))
        self.assertGreater(min(found.values()), 20)

    def test_just_one_word_is_right(self):
        for task in [*some_tasks(60, 93), *mild_tasks(30, 94)]:
            answer = best(*task)
            noughts = [(0, 1)] * len(task[2])
            prices = [(0, 1)] * len(task[0])
            for other in (("best", (0, 1), noughts, prices), ("open", noughts, noughts), ("none", prices)):
                if other[0] != answer[0]:
                    self.assertFalse(self.judged(task, other))

    def test_answers_that_are_not_whole(self):
        task = ([[1, 1]], [1], [1, 1])
        self.assertTrue(self.judged(task, ("best", (1, 1), [(1, 3), (2, 3)], [(1, 1)])))
        self.assertFalse(self.judged(task, ("best", (1, 1), [(1, 3), (1, 3)], [(1, 1)])))
        self.assertTrue(self.judged(([[0]], [0], [1]), ("open", [(1, 3)], [(1, LONG)])))
        self.assertTrue(self.judged(([[1]], [-1], [0]), ("none", [(1, LONG)])))

    def test_numbers_of_any_size(self):
        great = 10 ** 3000
        task = ([[1, 1]], [1], [1, 1])
        self.assertTrue(self.judged(task, ("best", (1, 1), [(1, great), (great - 1, great)], [(1, 1)])))
        self.assertFalse(self.judged(task, ("best", (1, 1), [(1, great), (1, 1)], [(1, 1)])))
        self.assertFalse(self.judged(task, ("best", (great, 1), [(1, 1), (0, 1)], [(1, 1)])))
        self.assertTrue(self.judged(([[0]], [0], [1]), ("open", [(great, 1)], [(1, great)])))
        self.assertTrue(self.judged(([[0]], [-1], [1]), ("none", [(great, 1)])))
        self.assertFalse(self.judged(([[0]], [0], [1]), ("none", [(great, 1)])))

    def test_of_anything(self):
        for task in (TASK, ([[0]], [0], [1]), ([[1]], [-1], [1])):
            for thing in [*NO_LISTS, [], "best", "open", "none", ("best",), ("open",), ("none",), (Odd(),) * 4, {()}]:
                self.assertFalse(self.judged(task, thing))
            for many in range(1, 6):
                for thing in (None, 0, (0, 1), [], [(0, 1)], Odd()):
                    for word in ("best", "open", "none"):
                        self.judged(task, (word, *[thing] * many))

    def test_of_another_task(self):
        table, bounds, gains = TASK
        answer = best(*TASK)
        self.assertFalse(self.judged((table, [4, 3, 1], gains), answer))
        self.assertFalse(self.judged((table, bounds, [2, 2]), answer))
        self.assertFalse(self.judged((table[:2], bounds[:2], gains), answer))
        self.assertTrue(self.judged((table, [4, 3, 6], gains), answer))

    def test_the_refusals(self):
        table, bounds, gains = TASK
        answer = best(*TASK)
        for thing in NO_TABLES:
            for given in ((bounds, gains, answer), (None, None, None), (Odd(), [], Odd())):
                raised(BadTable, is_answer, thing, *given)
        for other in (answer, None, Odd()):
            for wrong in wrong_lists(bounds):
                check_refused("bounds", is_answer, table, wrong, gains, other)
                check_refused("bounds", is_answer, table, wrong, None, other)
            for wrong in wrong_lists(gains):
                check_refused("gains", is_answer, table, bounds, wrong, other)
                check_refused("gains", is_answer, answer=other, gains=wrong, bounds=bounds, table=table)


class Priced(unittest.TestCase):
    def test_the_turned_table_with_the_other_sign(self):
        self.assertEqual(priced(*TASK), ([[-1, -1, 0], [-1, 0, -2]], [-2, -1], [-4, -3, -5]))
        self.assertEqual(priced(gains=[0], bounds=[-LONG], table=[[2]]), ([[-2]], [0], [LONG]))

    def test_sum_by_sum_and_twice_it_is_the_task_again(self):
        for task in some_tasks(80, 95, 5, -3, 3):
            table, bounds, gains = priced(*task)
            self.assertEqual(table, [[-entry for entry in row] for row in turned(task[0])])
            self.assertEqual((bounds, gains), ([-gain for gain in task[2]], [-bound for bound in task[1]]))
            self.assertEqual(priced(table, bounds, gains), task)
            self.assertIs(type(priced(*task)), tuple)
            self.assertTrue(is_table(table))

    def test_the_answers_of_the_one_are_those_of_the_other(self):
        words = {"best": 0, "open": 0, "none": 0}
        for task in [*some_tasks(150, 96), *mild_tasks(100, 97)]:
            answer = best(*task)
            other = best(*priced(*task))
            if answer[0] == "best":
                _, (top, bottom), x, prices = answer
                self.assertIs(is_answer(*priced(*task), ("best", (-top, bottom), prices, x)), True)
                self.assertEqual(other[1], (-top, bottom))
            elif answer[0] == "open":
                self.assertEqual(other[0], "none")
                self.assertIs(is_answer(*priced(*task), ("none", answer[2])), True)
            else:
                self.assertIn(other[0], ("open", "none"))
            words[answer[0]] += 1
        self.assertGreater(min(words.values()), 30)


class Kept(unittest.TestCase):
    def spoil(self, thing):
        for part in thing if isinstance(thing, (tuple, list)) else ():
            self.spoil(part)
        if isinstance(thing, list):
            thing[:] = ["spoilt"]

    def test_what_is_handed_in_stays_and_what_is_told_is_new(self):
        row = [1, 1]
        tasks = [TASK, ([row, row], [1, 1], [1, 1]), ([[0]], [0], [1]), ([[1]], [-1], [1]), (RING, [1] * 3, [1] * 3)]
        for task in tasks:
            as_it_was = deepcopy(task)
            for call in (best, priced):
                told = call(*task)
                again = deepcopy(told)
                self.spoil(told)
                self.assertEqual(call(*task), again)
                self.assertEqual(call(*deepcopy(task)), again)
                self.assertEqual(task, as_it_was)
            answer = best(*task)
            given = deepcopy(answer)
            self.assertTrue(is_answer(*task, answer))
            if answer[0] == "best":
                self.assertTrue(within(*task[:2], answer[2]))
            self.assertEqual((task, answer), (as_it_was, given))

    def test_one_list_may_be_several_things(self):
        row = [1, 1]
        numbers = [2, 2]
        table = [row, row]
        self.assertEqual(best(table, numbers, numbers)[1], (4, 1))
        self.assertEqual(priced(table, numbers, numbers), ([[-1, -1], [-1, -1]], [-2, -2], [-2, -2]))
        told = priced(table, numbers, numbers)
        told[1][0] = told[0][0][0] = 9
        self.assertEqual((told[2], told[0][1], numbers, row), ([-2, -2], [-1, -1], [2, 2], [1, 1]))
        self.assertEqual(best([row], row[:1], row)[1], (1, 1))

    def test_what_is_changed_and_changed_back(self):
        table, bounds, gains = deepcopy(TASK)
        answer = best(table, bounds, gains)
        table[0][1] = 0
        other = best(table, bounds, gains)
        self.assertEqual(other[1], (17, 2))
        self.assertFalse(is_answer(table, bounds, gains, answer))
        table[0][1] = 1
        bounds[1] = 0
        self.assertEqual(best(table, bounds, gains)[1], (5, 2))
        bounds[1] = 3
        gains[0] = 0
        self.assertEqual(best(table, bounds, gains)[1], (5, 2))
        gains[0] = 2
        self.assertEqual(best(table, bounds, gains), answer)
        self.assertTrue(is_answer(table, bounds, gains, answer))
        self.assertFalse(is_answer(table, bounds, gains, other))


class OfTheseTests(unittest.TestCase):
    def test_amounts_are_told_from_others(self):
        self.assertEqual(amounts([(0, 1), (1, 2)], 2), [0, Fraction(1, 2)])
        for thing in NO_FRACTIONS:
            self.assertIs(amounts([thing], 1), UNFIT)


if __name__ == "__main__":
    unittest.main()
