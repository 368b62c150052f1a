"""Points [2], [4], [53] and [54]: numbers, fractions and tables written as texts, and texts read back."""

import unittest
from copy import deepcopy
from fractions import Fraction
from random import Random

from samples import NETLIKE, NO_TABLES, Odd, pairs, raised, some_fractions, some_tables, some_wholes
from signbook.errors import BadTable, NoText
from signbook.texts import (
    read_fractions, read_numbers, read_table, show_fractions, show_numbers, show_table,
)
from tasks import LONG

NO_TEXTS = [None, True, False, 0, 7, b"1 0", [], ["1"], ("1",), {}, {"1": 1}, {"1"}, (1, 2), object(), Odd()]
GREATEST = 10 ** 400 - 1
READERS = (read_numbers, read_fractions, read_table)

# Words that are no whole numbers, nor fractions.
NO_WORDS = [
    "", "-", "--1", "+1", "-+1", "+0", "-0", "00", "01", "-01", "007", "1.0", "1e1", "1_000", "0x1", "0b1", "a", "one",
    "1-", "1,", "1;", ";", "|", "\n", "1\n", "\n1", "\t1", "1\t", "1\r", "\u00a01", "1\u00a0", "\u0661", "1\u0661",
    "\u00b2", "\uff11", "-\uff11", "\u22121", "\u2460", "\u0967", "1\x00", "True", "None", "nan", "inf", "(1)", "'1'",
    str(GREATEST + 1), str(-GREATEST - 1), "1" * 500, "-" + "9" * 5000, "0" * 400,
]
NO_FRACTION_WORDS = [
    "/", "1/", "/2", "-/2", "1/1", "0/1", "-1/1", "1/0", "0/0", "1/-2", "-1/-2", "2/4", "-2/4", "0/2", "6/3", "4/2",
    "+1/2", "1/+2", "01/2", "1/02", "-0/3", "1/2/3", "1//2", "1/2/", "/1/2", "1/ 2", "1 /2", "1/a", "a/2", "1/2\n",
    "\n1/2",
    "1/\u0662", "\u0661/2", "\u00bd", "1\u20442", "1:2", "1\\2", "0.5", "1/2.0", "1/" + "9" * 401, "1" * 401 + "/2",
    "1/" + "1" * 5000, "3/" + "3" * 400,
]


def check_part(test, call, text, part):
    """Make sure that a text is refused with the place of its first wrong part."""
    test.assertEqual(raised(NoText, call, text).part, part, repr(text))
    test.assertEqual(raised(NoText, call, text=text).part, part)


def sorts(values):
    """Tell the kinds of the values."""
    return {type(value) for value in values}


class Numbers(unittest.TestCase):
    def test_some(self):
        self.assertEqual(show_numbers([]), "")
        self.assertEqual(show_numbers([0]), "0")
        self.assertEqual(show_numbers([1, 0, -1]), "1 0 -1")
        self.assertEqual(show_numbers(numbers=[-20, 300]), "-20 300")
        self.assertEqual(read_numbers(""), [])
        self.assertEqual(read_numbers("0"), [0])
        self.assertEqual(read_numbers("1 0 -1"), [1, 0, -1])
        self.assertEqual(read_numbers(text="-20 300"), [-20, 300])

    def test_read_back(self):
        chance = Random(801)
        for many in range(20):
            for most in (1, 9, 1000, LONG, GREATEST):
                numbers = some_wholes(many, chance, most)
                text = show_numbers(numbers)
                self.assertEqual(text, " ".join(map(str, numbers)))
                self.assertEqual(read_numbers(text), numbers)
                self.assertEqual(show_numbers(read_numbers(text)), text)

    def test_four_hundred_figures_and_one_more(self):
        for number in (GREATEST, -GREATEST, 10 ** 399, -10 ** 399):
            text = show_numbers([7, number])
            self.assertEqual(len(text.lstrip("7 -")), 400)
            self.assertEqual(read_numbers(text), [7, number])
        for number in (GREATEST + 1, -GREATEST - 1):
            check_part(self, read_numbers, f"7 {number}", 1)
            check_part(self, read_numbers, f"{number}", 0)

    def test_the_first_wrong_word(self):
        for word in [*NO_WORDS, *NO_FRACTION_WORDS, "1/2", "-1/2"]:
            if " " not in word:
                if word:
                    check_part(self, read_numbers, word, 0)
                check_part(self, read_numbers, f"{word} 1", 0)
                check_part(self, read_numbers, f"1 {word}", 1)
                check_part(self, read_numbers, f"1 0 {word} -7", 2)
                check_part(self, read_numbers, f"1 0 {word} {word} x", 2)

    def test_blanks(self):
        for text, part in (
            (" ", 0), ("  ", 0), (" 1", 0), ("1 ", 1), ("1  2", 1), ("1 2 ", 2), ("1 2  3", 2), ("1   2", 1),
            ("1 2  ", 2),
        ):
            check_part(self, read_numbers, text, part)
            check_part(self, read_fractions, text, part)

    def test_whole_numbers_alone_are_told(self):
        self.assertEqual(sorts(read_numbers("1 0 -1 5")), {int})


class Fractions(unittest.TestCase):
    def test_some(self):
        self.assertEqual(show_fractions([]), "")
        self.assertEqual(show_fractions([(0, 1)]), "0")
        self.assertEqual(show_fractions([(1, 2), (-3, 1), (-7, 5)]), "1/2 -3 -7/5")
        self.assertEqual(show_fractions(fractions=[(10, 3)]), "10/3")
        self.assertEqual(read_fractions(""), [])
        self.assertEqual(read_fractions("0"), [(0, 1)])
        self.assertEqual(read_fractions("1/2 -3 -7/5"), [(1, 2), (-3, 1), (-7, 5)])
        self.assertEqual(read_fractions(text="10/3"), [(10, 3)])

    def test_read_back(self):
        chance = Random(802)
        for many in range(20):
            great = pairs([Fraction(chance.randint(-LONG, LONG), chance.randint(1, LONG)) for _ in range(many)])
            for values in (some_fractions(many, many), great):
                text = show_fractions(values)
                self.assertEqual(text, " ".join(str(Fraction(*value)) for value in values))
                self.assertEqual(read_fractions(text), values)
                self.assertEqual(show_fractions(read_fractions(text)), text)
                self.assertEqual(sorts(values) | {tuple}, {tuple})

    def test_four_hundred_figures_and_one_more(self):
        for top, bottom in ((GREATEST, 2), (-GREATEST, 2), (1, GREATEST), (-1, GREATEST), (GREATEST - 1, GREATEST)):
            text = show_fractions([(top, bottom)])
            self.assertEqual(text, f"{top}/{bottom}")
            self.assertEqual(read_fractions(text), [(top, bottom)])
        beyond = GREATEST + 2
        for word in (
            f"{beyond}/2", f"-{beyond}/2", f"1/{beyond}", f"-1/{beyond}", f"{beyond}",
            f"{beyond}/{beyond + 1}",
        ):
            check_part(self, read_fractions, word, 0)
            check_part(self, read_fractions, f"1/2 {word}", 1)

    def test_the_first_wrong_word(self):
        for word in [*NO_WORDS, *NO_FRACTION_WORDS]:
            if " " not in word:
                if word:
                    check_part(self, read_fractions, word, 0)
                check_part(self, read_fractions, f"{word} 1/2", 0)
                check_part(self, read_fractions, f"1/2 {word}", 1)
                check_part(self, read_fractions, f"1/2 0 {word} -7/3", 2)
                check_part(self, read_fractions, f"1/2 0 {word} {word} x", 2)
        check_part(self, read_fractions, "1/ 2", 0)
        check_part(self, read_fractions, "1 /2", 1)


class Tables(unittest.TestCase):
    def test_some(self):
        self.assertEqual(show_table([[1, 0, -1], [0, 1, 1]]), "1 0 -1; 0 1 1")
        self.assertEqual(show_table(table=[[0]]), "0")
        self.assertEqual(read_table("1 0 -1; 0 1 1"), [[1, 0, -1], [0, 1, 1]])
        self.assertEqual(read_table(text="0"), [[0]])
        self.assertEqual(read_table("1; -2; 3"), [[1], [-2], [3]])

    def test_read_back(self):
        for low, high in ((-1, 1), (-99, 99), (-LONG, LONG), (-GREATEST, GREATEST)):
            for table in some_tables(60, low, high, 803):
                text = show_table(table)
                self.assertEqual(text, "; ".join(" ".join(map(str, row)) for row in table))
                self.assertEqual(read_table(text), table)
                self.assertEqual(show_table(read_table(text)), text)
        for rows in (1, 8):
            for columns in (1, 8):
                table = [[GREATEST] * columns] * rows
                self.assertEqual(read_table(show_table(table)), table)

    def test_the_first_wrong_row(self):
        for word in [*NO_WORDS, "1/2", "1/1"]:
            check_part(self, read_table, word, 0)
            check_part(self, read_table, f"1 {word}; 1 0", 0)
            check_part(self, read_table, f"1 0; {word} 0; 1 0", 1)
            check_part(self, read_table, f"1 0; 1 0; 0 {word}; 1", 2)

    def test_rows_of_unlike_lengths(self):
        for text, part in (
            ("1 0; 1", 1), ("1; 1 0", 1), ("1 0; 0 1; 1 1 1", 2), ("1; 1; 1; ", 3), ("", 0), ("; 1", 0), ("1; ; 1", 1),
            ("1; ", 1), ("; ", 0), (" ", 0), ("1 0; 1; x", 1), ("1 0; x; 1", 1),
            ("1 0 0 0 0 0 0 0; 1 0 0 0 0 0 0 0 0", 1),
        ):
            check_part(self, read_table, text, part)

    def test_rows_of_nine(self):
        nine = " ".join("1" * 9)
        check_part(self, read_table, nine, 0)
        check_part(self, read_table, f"{nine}; {nine}", 0)
        check_part(self, read_table, f"1; {nine}", 1)
        self.assertEqual(read_table(nine[:-2]), [[1] * 8])

    def test_eight_rows_and_more(self):
        eight = "; ".join("1" * 8)
        self.assertEqual(read_table(eight), [[1]] * 8)
        check_part(self, read_table, eight + "; 1", 8)
        check_part(self, read_table, eight + "; 1; 1; 1", 8)
        check_part(self, read_table, eight + "; ", 8)
        check_part(self, read_table, eight + "; x", 8)
        check_part(self, read_table, eight + "; 1 1", 8)
        check_part(self, read_table, eight + ";", 7)
        check_part(self, read_table, "; ".join("1111111x1"), 7)
        check_part(self, read_table, "; ".join("11x111111"), 2)
        check_part(self, read_table, "1 1; " + eight, 1)

    def test_blanks_and_what_parts_rows(self):
        for text, part in (
            ("1;0", 0), ("1 0;0 1", 0), ("1 ; 0", 0), ("1;  0", 1), (" 1; 0", 0), ("1; 0 ", 1), ("1  0; 0 1", 0),
            ("1 0; 0  1", 1), ("1,0", 0), ("1 0\n0 1", 0), ("1; 0;", 1), (";", 0), ("1;; 0", 0), ("1; 0\n", 1),
            ("1 | 0", 0),
        ):
            check_part(self, read_table, text, part)

    def test_what_is_no_table(self):
        for thing in NO_TABLES:
            raised(BadTable, show_table, thing)
            raised(BadTable, show_table, table=thing)
        raised(BadTable, show_table, Odd())


class All(unittest.TestCase):
    def test_what_is_no_text(self):
        for call in READERS:
            for thing in NO_TEXTS:
                self.assertEqual(raised(NoText, call, thing).part, -1)
                self.assertEqual(raised(NoText, call, text=thing).part, -1)

    def test_what_is_handed_in_stays_and_what_is_told_is_new(self):
        numbers, values, table = [1, -2], [(1, 2), (3, 1)], deepcopy(NETLIKE)
        for show, read, given in (
            (show_numbers, read_numbers, numbers), (show_fractions, read_fractions, values),
            (show_table, read_table, table),
        ):
            as_it_was = deepcopy(given)
            text = show(given)
            self.assertEqual(given, as_it_was)
            told = read(text)
            self.assertEqual(told, given)
            told[0] = "spoilt"
            told.append("spoilt")
            self.assertEqual(read(text), as_it_was)
        told = read_table("1 0; 1 0")
        self.assertIsNot(told[0], told[1])

    def test_what_is_changed_and_changed_back(self):
        table = [[1, 0], [0, 1]]
        table[0][1] = -5
        self.assertEqual(show_table(table), "1 -5; 0 1")
        table[0][1] = 0
        self.assertEqual(show_table(table), "1 0; 0 1")


if __name__ == "__main__":
    unittest.main()
