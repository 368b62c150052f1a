"""Points [2], [4] and [10]: whole numbers and fractions."""

import unittest
from fractions import Fraction
from itertools import product as choices
from math import ceil, floor

from samples import Odd, raised
from signbook.errors import NoFraction
from signbook.fractions import (
    ceiling_of, divided, floor_of, fraction, is_fraction, is_whole, minus, plus, times, under,
)

LONG = 10 ** 39 + 7
VALUES = [
    (0, 1), (1, 1), (-1, 1), (1, 2), (-1, 2), (2, 3), (-7, 3), (7, 2), (-9, 4), (5, 6), (12, 1), (-30, 7),
    (LONG, 1), (-LONG, 1), (1, LONG), (-1, LONG), (LONG, LONG - 1), (1 - LONG, LONG), (10 ** 39, 3 ** 80),
]
NOT_WHOLE = [None, True, False, "1", "", b"1", (1, 2, 3), (), [1], [], {}, {1}, object(), Odd()]


def told(value):
    """Tell the library's fraction as a tuple."""
    return (value.numerator, value.denominator)


class Kinds(unittest.TestCase):
    def test_whole_numbers(self):
        for thing in (0, 1, -1, 8, LONG, -LONG, 10 ** 400):
            self.assertIs(is_whole(thing), True)

    def test_what_is_no_whole_number(self):
        for thing in [*NOT_WHOLE, *VALUES]:
            self.assertIs(is_whole(thing), False)

    def test_fractions(self):
        for thing in [*VALUES, (10 ** 400 + 1, 10 ** 400)]:
            self.assertIs(is_fraction(thing), True)

    def test_what_is_no_fraction(self):
        wrong = [
            (), (1,), (1, 2, 3), [1, 2], "12", (2, 4), (0, 2), (0, 0), (1, 0), (1, -2), (-1, -2), (0, -1), (3, 3),
            (-6, 4), (10 ** 400, 10), (True, 1), (1, True), (False, 1), (0, True), (None, 1), (1, None), ("1", 1),
            (1, "1"), ((1, 1), 1), (1, (1, 1)), ([], 1), (1, []), (Odd(), 1), (1, Odd()), Odd(), 0, 1,
        ]
        for thing in [*NOT_WHOLE, *wrong]:
            self.assertIs(is_fraction(thing), False)


class Made(unittest.TestCase):
    def test_of_one_argument(self):
        for top in (0, 1, -1, 5, LONG, -LONG):
            self.assertEqual(fraction(top), (top, 1))

    def test_of_two_in_lowest_terms(self):
        for top, bottom in choices(range(-12, 13), repeat=2):
            if bottom != 0:
                self.assertEqual(fraction(top, bottom), told(Fraction(top, bottom)))

    def test_of_long_numbers(self):
        self.assertEqual(fraction(LONG * 6, LONG * -4), (-3, 2))
        self.assertEqual(fraction(-LONG, -LONG), (1, 1))
        self.assertEqual(fraction(0, -LONG), (0, 1))

    def test_by_name(self):
        self.assertEqual(fraction(bottom=-4, top=6), (-3, 2))
        self.assertEqual(fraction(top=3), (3, 1))

    def test_a_bottom_0_is_refused(self):
        for top in (0, 1, -1, LONG):
            raised(NoFraction, fraction, top, 0)

    def test_other_things_are_refused(self):
        for thing in [*NOT_WHOLE, (1, 1), (1, 2)]:
            raised(NoFraction, fraction, thing)
            raised(NoFraction, fraction, thing, 2)
            raised(NoFraction, fraction, thing, 0)
            raised(NoFraction, fraction, 2, thing)
            raised(NoFraction, fraction, thing, thing)
            raised(NoFraction, fraction, top=1, bottom=thing)


class Reckoned(unittest.TestCase):
    def test_of_each_two_values(self):
        for one, other in choices(VALUES, repeat=2):
            a, b = Fraction(*one), Fraction(*other)
            self.assertEqual(plus(one, other), told(a + b))
            self.assertEqual(minus(one, other), told(a - b))
            self.assertEqual(times(one, other), told(a * b))
            self.assertIs(under(one, other), a < b)
            for value in (plus(one, other), minus(one, other), times(one, other)):
                self.assertIs(is_fraction(value), True)

    def test_quotients(self):
        for one, other in choices(VALUES, repeat=2):
            if other != (0, 1):
                value = divided(one, other)
                self.assertEqual(value, told(Fraction(*one) / Fraction(*other)))
                self.assertIs(is_fraction(value), True)

    def test_what_is_divided_by_0_is_refused(self):
        for one in VALUES:
            raised(NoFraction, divided, one, (0, 1))
            raised(NoFraction, divided, other=(0, 1), one=one)

    def test_nought_is_one_fraction(self):
        self.assertEqual(minus((5, 6), (5, 6)), (0, 1))
        self.assertEqual(plus((-1, 2), (1, 2)), (0, 1))
        self.assertEqual(times((0, 1), (-7, 3)), (0, 1))
        self.assertEqual(divided((0, 1), (-7, 3)), (0, 1))

    def test_by_name(self):
        one, other = (1, 2), (-2, 3)
        self.assertEqual(plus(other=other, one=one), (-1, 6))
        self.assertEqual(minus(other=other, one=one), (7, 6))
        self.assertEqual(times(other=other, one=one), (-1, 3))
        self.assertEqual(divided(other=other, one=one), (-3, 4))
        self.assertIs(under(other=one, one=other), True)

    def test_nothing_is_less_than_itself(self):
        for value in VALUES:
            self.assertIs(under(value, value), False)

    def test_floors_and_ceilings(self):
        some = [(top, bottom) for top, bottom in choices(range(-9, 10), range(1, 7)) if is_fraction((top, bottom))]
        for value in [*VALUES, *some]:
            self.assertEqual(floor_of(value), floor(Fraction(*value)))
            self.assertEqual(ceiling_of(value), ceil(Fraction(*value)))
            self.assertIs(is_whole(floor_of(value)) and is_whole(ceiling_of(value)), True)
        self.assertEqual((floor_of(value=(-1, 2)), ceiling_of(value=(-1, 2))), (-1, 0))


if __name__ == "__main__":
    unittest.main()
