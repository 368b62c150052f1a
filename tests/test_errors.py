"""Points [4] and the interface's list of refusals."""

import inspect
import unittest

from signbook import errors

BARE = ["NoFraction", "BadTable", "NoFit", "NoPivot", "NotPlain", "NoPart", "NoLine"]
FIELDS = {
    "NoPick": "at",
    "NoList": "word",
    "NotWhole": "rows",
    "NoTree": "at",
    "NoArcs": "at",
    "NoSum": "at",
    "TooMany": "many",
    "NoName": "name",
    "NoText": "part",
}


class Classes(unittest.TestCase):
    def test_sign_error_is_an_arithmetic_error(self):
        self.assertEqual(errors.SignError.__bases__, (ArithmeticError,))

    def test_each_class_is_straight_under_sign_error(self):
        for name in [*BARE, *FIELDS]:
            self.assertEqual(getattr(errors, name).__bases__, (errors.SignError,), name)

    def test_there_are_just_these_classes_and_they_are_defined_here(self):
        here = {name for name, kind in vars(errors).items() if inspect.isclass(kind)}
        self.assertEqual(here, {"SignError", *BARE, *FIELDS})
        for name in here:
            self.assertEqual(getattr(errors, name).__module__, "signbook.errors")

    def test_those_without_a_field_are_made_of_a_text_or_of_nothing(self):
        for name in ["SignError", *BARE]:
            kind = getattr(errors, name)
            with self.assertRaises(errors.SignError):
                raise kind()
            self.assertEqual(str(kind("a text")), "a text")
            self.assertEqual(vars(kind("a text")), {})

    def test_each_made_of_its_field_bears_it(self):
        for name, field in FIELDS.items():
            kind = getattr(errors, name)
            for worth in (0, -1, 5, "bounds", "", [0, 2], None):
                self.assertEqual(vars(kind(worth)), {field: worth}, name)
                self.assertEqual(vars(kind(**{field: worth})), {field: worth}, name)

    def test_those_with_a_field_need_it(self):
        for name in FIELDS:
            with self.assertRaises(TypeError):
                getattr(errors, name)()
            with self.assertRaises(TypeError):
                getattr(errors, name)(1, 2)

    def test_each_is_caught_as_an_arithmetic_error(self):
        for name in FIELDS:
            with self.assertRaises(ArithmeticError):
                raise getattr(errors, name)(3)

    def test_not_whole_keeps_rows_of_its_own(self):
        rows = [0, 1]
        refusal = errors.NotWhole(rows)
        rows.append(2)
        self.assertEqual(refusal.rows, [0, 1])


if __name__ == "__main__":
    unittest.main()
