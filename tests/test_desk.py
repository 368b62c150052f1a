"""Points [2], [4], [55] and [56]: the lines of a desk, their answers and their refusals."""

import inspect
import unittest
from random import Random

from desks import (
    LINES, MAKING, TEXTS, a_desk, all_tables_of, best_answer, book_answer, broken_answer, net_answer, pack_answer,
    part_answer,
    parts_of, round_answer, rows_of, signs_answer, spread_answer, square_answer, stand_answer, words,
)
from samples import Odd, raised, some_fractions, some_tables, some_wholes, sound_tables
from signbook import errors
from signbook.desk import Desk
from signbook.errors import NoLine, NoList, NoName, NoPart, NoPick, NoPivot, NoSum, NotPlain, NotWhole, NoText, TooMany
from signbook.sums import beside, three_sum, two_sum
from signbook.tables import piece, pivoted, turned
from tasks import LONG

NO_TEXTS = [None, True, 0, b"tables", ["tables"], ("tables",), {}, {"tables": 1}, [], object(), Odd()]
GREATEST = 10 ** 400 - 1


def answer_of(call, *given):
    """Tell what a call answers, or the kind and fields of its refusal."""
    try:
        return call(*given)
    except errors.SignError as refusal:
        return type(refusal), vars(refusal)


class Shared(unittest.TestCase):
    def setUp(self):
        self.desk = a_desk()
        self.ahead = all_tables_of(self.desk)

    def refused(self, kind, line, field=None):
        """Make sure that a line is refused so, and that all tables stay."""
        told = raised(kind, self.desk.say, line)
        if field is not None:
            self.assertEqual(list(vars(told).values()), [field], line)
        self.assertEqual(all_tables_of(self.desk), self.ahead, line)

    def made(self, line, text):
        """Make sure that a line makes a table of this text under the name N, and leaves all others."""
        desk = a_desk()
        self.assertEqual(desk.say(line.replace("N", "new", 1)), "ok")
        self.assertEqual(all_tables_of(desk), {**self.ahead, "new": text}, line)


class Interface(unittest.TestCase):
    def test_the_class_has_its_methods(self):
        self.assertEqual(Desk.__module__, "signbook.desk")
        self.assertEqual(str(inspect.signature(Desk)), "()")
        for name, arguments in (("say", "(self, line)"), ("tried", "(self, lines)")):
            self.assertEqual(str(inspect.signature(vars(Desk)[name])), arguments)
        self.assertEqual(Desk().say(line="tables"), "")
        self.assertEqual(Desk().tried(lines=["tables"]), [""])


class Lines(Shared):
    def test_table_drop_tables_show(self):
        desk = Desk()
        self.assertEqual(desk.say("tables"), "")
        self.assertEqual(desk.say("table b 1 0; 0 1"), "ok")
        self.assertEqual(desk.say("table abcdefgh -5"), "ok")
        self.assertEqual(desk.say("table a 7"), "ok")
        self.assertEqual(desk.say("tables"), "a abcdefgh b")
        self.assertEqual(desk.say("show b"), "1 0; 0 1")
        self.assertEqual(desk.say("show abcdefgh"), "-5")
        self.assertEqual(desk.say("drop a"), "ok")
        self.assertEqual(desk.say("tables"), "abcdefgh b")
        raised(NoName, desk.say, "show a")
        self.assertEqual(desk.say("drop b"), "ok")
        self.assertEqual(desk.say("drop abcdefgh"), "ok")
        self.assertEqual(desk.say("tables"), "")

    def test_names_of_every_letter(self):
        desk = Desk()
        names = ["abcdefgh", "ijklmnop", "qrstuvwx", "yz", "z", "zz", "table", "tables", "drop", "none"]
        for name in names:
            self.assertEqual(desk.say(f"table {name} 1"), "ok")
        self.assertEqual(desk.say("tables"), " ".join(sorted(names)))
        self.assertEqual(desk.say("show tables"), "1")
        self.assertEqual(desk.say("drop drop"), "ok")

    def test_same(self):
        self.assertEqual(self.desk.say("same a a"), "yes")
        self.assertEqual(self.desk.say("same a b"), "no")
        self.desk.say("turn t a")
        self.assertEqual(self.desk.say("same a t"), "no")
        self.desk.say("turn t t")
        self.assertEqual(self.desk.say("same t a"), "yes")

    def test_lines_that_make_tables(self):
        tables = [[[int(word) for word in row.split()] for row in TEXTS[name].split(";")] for name in "abcd"]
        one, other, first, second = tables
        self.made("table N 1 2; -3 4", "1 2; -3 4")
        self.made("turn N a", rows_of(turned(one)))
        self.made("pivot N a 0 2", rows_of(pivoted(one, 0, 2)))
        self.made("pivot N b 1 1", rows_of(pivoted(other, 1, 1)))
        self.made("piece N a | 1 | 0 2", rows_of(piece(one, [1], [0, 2])))
        self.made("piece N b | 0 2 | 2", rows_of(piece(other, [0, 2], [2])))
        self.made("beside N a b", rows_of(beside(one, other)))
        self.made("beside N b a", rows_of(beside(other, one)))
        self.made("two N a b", rows_of(two_sum(one, other)))
        self.made("two N b a", rows_of(two_sum(other, one)))
        self.made("three N c d", rows_of(three_sum(first, second)))

    def test_the_answers_of_the_functions(self):
        chance = Random(901)
        tables = [*some_tables(40, -1, 1, 902), *some_tables(40, 0, 1, 903), *some_tables(20, -LONG, LONG, 904)]
        tables += [*sound_tables(40, 905), [[1, 1, 0, 1], [1, 0, 1, 1], [0, 1, 1, 1]]]
        for table in tables:
            rows, columns = len(table), len(table[0])
            bounds, gains = some_wholes(rows, chance, 5), some_wholes(columns, chance, 5)
            xs, numbers = some_fractions(columns, chance.random()), [chance.randint(0, 3) for _ in range(columns)]
            many = chance.randint(1, 4)
            self.desk.say(f"table x {rows_of(table)}")
            for line, call, given in (
                ("show x", rows_of, ()), ("square x", square_answer, ()), ("book x", book_answer, ()),
                ("broken x", broken_answer, ()), ("spread x", spread_answer, ()), ("net x", net_answer, ()),
                ("stand x", stand_answer, ()), ("signs x", signs_answer, ()), ("pack x", pack_answer, ()),
                (f"best x | {words(bounds)} | {words(gains)}", best_answer, (bounds, gains)),
                (f"round x | {parts_of(xs)}", round_answer, (xs,)),
                (f"part x {many} | {words(bounds)} | {words(numbers)}", part_answer, (many, bounds, numbers)),
            ):
                self.assertEqual(answer_of(self.desk.say, line), answer_of(call, table, *given), (line, table))

    def test_each_kind_of_answer(self):
        say = self.desk.say
        for name, text in (
            ("one", "1"), ("nought", "0"), ("two", "2"), ("row", "1 1"), ("fork", "1 1 0 0; 1 0 1 0; 1 0 0 1"),
            ("points", "1 1 0 1; 1 0 1 1; 0 1 1 1"), ("turned", "1 1 0; 1 0 1; 0 1 1; 1 1 1"),
        ):
            say(f"table {name} {text}")
        for line, answer in (
            ("square a", "none"), ("square b", "0 1 2 | 0 1 2 | 2"), ("square c", "0 | 0 | 7"),
            ("book a", "0: 1\n1: 1\n0 1: 1 1"), ("book one", "0: 1"),
            ("broken a", "none"), ("broken b", "1 1 1 | 2 2 2 | 1/2 1/2 1/2"), ("broken two", "1 | 2 | 1/2"),
            ("best row | 4 | 1 2", "best 8"), ("best two | 3 | 1", "best 3/2"), ("best two | -3 | 1", "none"),
            ("best nought | 0 | 1", "open"), ("best one | 3 | -1", "best 0"), ("best one | 0 | 5", "best 0"),
            ("round row | 1/2 1/2", "0 1"), ("round two | 1/2", "none"), ("round row | -7/2 3", "-4 3"),
            ("part row 2 | 2 | 2 2", "0 2; 2 0"), ("part two 2 | 3 | 3", "none"), ("part row 1 | 9 | 4 4", "4 4"),
            ("spread b", "2 | 1 1 1"), ("spread row", "0 | 1 -1"), ("net a", "yes"), ("net b", "no"),
            ("stand row", "0 1"), ("stand fork", "none"), ("stand b", "none"),
            ("signs b", "1 1 0; 0 1 1; 1 0 -1"), ("signs points", "seven"), ("signs turned", "turned"),
            ("pack b", "0 | 0 1"), ("pack nought", " | "), ("pack points", "0 | 0 1"),
        ):
            self.assertEqual(say(line), answer, line)

    def test_the_text_of_a_table_is_not_parted(self):
        for text in ("1 | 2", "1 0 | 0 1", "| 1", "1 |", " | ", "1 | 0; 1"):
            self.refused(NoText, f"table n {text}", 0)
        self.refused(NoText, "table n 1 0; 0 | 1", 1)
        self.refused(NoText, "table n ", 0)
        self.refused(NoText, "table n  1", 0)
        self.refused(NoText, "table n 1 ", 0)


class NoLines(Shared):
    def test_what_is_no_text(self):
        for thing in NO_TEXTS:
            raised(NoLine, self.desk.say, thing)
            raised(NoLine, self.desk.say, line=thing)
        self.assertEqual(all_tables_of(self.desk), self.ahead)

    def test_another_first_word(self):
        for line in (
            "", " ", "|", " | ", "a", "tabl", "tabless", "shows a", "Tables", "TABLES", "Show a", "say tables",
            " tables", "\ttables", "tables\n", "\ntables",
            "parts a", "led a", "rank a", "none", "ok", "show\na", "show\ta",
            "help", "1",
            "row a", "as_net a", "together a",
        ):
            self.refused(NoLine, line)
        for word, line in LINES.items():
            line = line.replace("N", "n")
            for other in (
                word.upper(), word.title(), word + "s" if word != "table" else "tablet", " " + word,
                word + "\n",
            ):
                self.refused(NoLine, line.replace(word, other, 1))

    def test_another_number_of_words_or_parts(self):
        for word, line in LINES.items():
            line = line.replace("N", "n")
            head, bar, rest = line.partition(" | ")
            if word != "table":
                self.refused(NoLine, f"{head} a{bar}{rest}")
                self.refused(NoLine, f"{head} {bar}{rest}")
                self.refused(NoLine, f"{line} | ")
                self.refused(NoLine, f"{line} | 0")
                self.refused(NoLine, f"{head} | 0{bar}{rest}")
            if " " in head:
                ahead, last = head.rsplit(" ", 1)
                if word != "table":
                    self.refused(NoLine, f"{ahead}{bar}{rest}")
                    self.refused(NoLine, f"{ahead}  {last}{bar}{rest}")
            self.refused(NoLine, word + bar + rest if word != "tables" else "tables a")
            if bar:
                self.refused(NoLine, head)
                self.refused(NoLine, line.replace(" | ", " |", 1))
                self.refused(NoLine, line.replace(" | ", "| ", 1))
                self.refused(NoLine, line.replace(" | ", "|", 1))
                self.refused(NoLine, line.rsplit(" | ", 1)[0])
                self.refused(NoLine, head + " |")
        for line in (
            "table", "table ", "table n", "table  1", "table  n 1", "tables ", "tables | ", "show",
            "show a b",
        ):
            self.refused(NoLine, line)

    def test_a_new_name_that_is_none(self):
        wrong = ["", "A", "aB", "a1", "1", "abcdefghi", "a-b", "a_b", "a.", "\u00e9", "\u00df", "a\n", "\n", "a\u0301",
            "|",
                 "a|b", "\uff41"]
        for word in MAKING:
            for name in wrong:
                self.refused(NoLine, LINES[word].replace("N", name, 1))
        # The form of a line goes ahead of the names and of the texts in it.
        for line in (
            "turn N1 zz", "pivot ABC zz x y", "piece a1 zz | x | y", "table A x", "beside Aa zz zz",
            "show zz zz",
        ):
            self.refused(NoLine, line)

    def test_from_the_left_no_blank_twice(self):
        desk = self.desk
        self.refused(NoText, "best a | | | 1 2 3", 0)
        self.refused(NoLine, "best a | 1 1 | | 1 2 3 | 4")
        self.refused(NoLine, "round a | | | 1")
        # One part is told here: a bar, a blank, a bar.
        self.refused(NoText, "round a | | |", 0)
        self.refused(NoList, "round a | ", "xs")
        self.refused(NoPick, "piece n a |  | 0", -1)
        self.refused(NoPick, "piece n a | 0 | ", -1)
        self.assertEqual(desk.say("round a | 0 0 0"), "0 0 0")


class NoNames(Shared):
    def test_the_first_unknown_name(self):
        for line, name in (
            ("show zz", "zz"), ("show A", "A"), ("show ", ""), ("drop abcdefghi", "abcdefghi"), ("drop a1", "a1"),
            ("same zz yy", "zz"), ("same a yy", "yy"), ("same zz a", "zz"), ("same a ", ""), ("turn n zz", "zz"),
            ("turn zz zz", "zz"), ("beside n zz yy", "zz"), ("beside n a yy", "yy"), ("two n zz a", "zz"),
            ("three n c |", "|"), ("show |", "|"), ("three n yy d", "yy"), ("show a|b", "a|b"), ("show \n", "\n"),
            ("net n", "n"), ("show nn\n", "nn\n"),
        ):
            self.refused(NoName, line, name)

    def test_every_line_with_a_name(self):
        for word, line in LINES.items():
            line = line.replace("N", "n")
            head, bar, rest = line.partition(" | ")
            given = head.split(" ")
            for at in range(2 if word in MAKING else 1, len(given)):
                if given[at] in TEXTS and word != "table":
                    told = " ".join(given[:at] + ["none"] + given[at + 1:])
                    self.refused(NoName, told + bar + rest, "none")

    def test_ahead_of_the_texts(self):
        self.refused(NoName, "pivot n zz x y", "zz")
        self.refused(NoName, "piece n zz | x | y", "zz")
        self.refused(NoName, "best zz | x | y", "zz")
        self.refused(NoName, "round zz | x", "zz")
        self.refused(NoName, "part zz x | y | z", "zz")

    def test_a_dropped_name(self):
        self.desk.say("drop a")
        self.ahead = all_tables_of(self.desk)
        self.assertEqual(self.desk.say("tables"), "b c d")
        self.refused(NoName, "show a", "a")
        self.refused(NoName, "drop a", "a")
        self.refused(NoName, "same b a", "a")


class NoTexts(Shared):
    def test_a_number(self):
        for text in ("x", "+1", "01", "-0", "1.0", "1/2", "\u0661", str(GREATEST + 1), "||", "1\n", "0\t"):
            self.refused(NoText, f"pivot n a {text} 0", 0)
            self.refused(NoText, f"pivot n a 0 {text}", 0)
            self.refused(NoText, f"pivot n a {text} {text}", 0)
            self.refused(NoText, f"part a {text} | 1 1 | 1 1 1", 0)
        self.refused(NoText, "pivot n a  0", 0)
        self.refused(NoText, "part a  | 1 1 | 1 1 1", 0)

    def test_the_first_of_several_texts(self):
        for line, part in (
            ("piece n a | 0 x | y", 1), ("piece n a | 0 1 | y", 0), ("piece n a | 0 1 | 0 1 y", 2),
            ("piece n a | x | ", 0),
            ("piece n a |  0 | 1", 0), ("piece n a | 0 | 1 ", 1), ("best a | 1 x | y", 1), ("best a | 1 1 | 0 1 y", 2),
            ("best a | 1/2 1 | 1 1 1", 0), ("best a | 1  1 | x", 1), ("best a |  | x", 0), ("round a | 1/2 2/4 x", 1),
            ("round a | 1/1", 0), ("round a | 0 1/2 ", 2), ("part a x | y | z", 0), ("part a 2 | 1 y | z", 1),
            ("part a 2 | 1 1 | 1 1 z", 2), ("part a 2 |  | z", 0), ("part a 9 | 1 1 1 | 1 z", 1),
            ("pivot n a 9 x", 0), ("table n 1 0; 1", 1), ("table n x", 0), ("table n 1; 1; 1; 1; 1; 1; 1; 1; 1", 8),
        ):
            self.refused(NoText, line, part)

    def test_ahead_of_the_deed(self):
        self.refused(NoText, "piece n a | 9 | x", 0)
        self.refused(NoText, "best a | 1 | x", 0)
        self.refused(NoText, "part a 9 | 1 | x", 0)
        self.refused(NoText, "pivot n a 9 x", 0)


class Deeds(Shared):
    def test_what_the_deeds_refuse(self):
        self.desk.say("table wide 1 1 1 1 1 1 1 1")
        self.desk.say("table tall 0; 1; 0; 1; 0; 1; 0; 1")
        self.ahead = all_tables_of(self.desk)
        for kind, line, field in (
            (NoPick, "pivot n a 2 0", 0), (NoPick, "pivot n a 0 3", 1), (NoPick, "pivot n a -1 9", 0),
            (NoPick, "pivot n a 0 -1", 1), (NoPick, f"pivot n a 0 {GREATEST}", 1), (NoPivot, "pivot n a 0 1", None),
            (NoPivot, "pivot n c 0 0", None), (NoPick, "piece n a | 0 2 | 9", 1), (NoPick, "piece n a | 0 1 | 0 0", 1),
            (NoPick, "piece n a |  | 0", -1), (NoPick, "piece n a | 0 | ", -1), (NoPick, "piece n a | 1 0 | 0", 1),
            (TooMany, "beside n wide a", 8), (TooMany, "beside n tall a", 8), (TooMany, "two n tall b", 8),
            (TooMany, "two n wide a", 8), (NoSum, "three n a d", 0), (NoSum, "three n d c", 0),
            (NoSum, "three n c c", 1),
            (NoSum, "three n a a", 0), (NotWhole, "book b", [0, 1, 2]), (NotWhole, "book c", [0]),
            (NoList, "best a | 1 | 1 1 1", "bounds"), (NoList, "best a | 1 1 | 1 1", "gains"),
            (NoList, "best a |  | ", "bounds"), (NoList, "best a | 1 1 1 | 1", "bounds"),
            (NoList, "round a | 1/2 1/2", "xs"), (NoList, "part a 2 | 1 | 1 1 1", "bounds"),
            (NoList, "part a 2 | 1 1 | 1 1", "xs"), (NoList, "part a 2 | 1 1 | 1 5 1", "xs"),
            (NoList, "part a 0 | 1 1 | 1 1 1", "many"), (NoList, "part a 5 | 9 9 | 1 1 1", "many"),
            (NoList, "part a -1 | 1 1 | 1 1 -1", "xs"), (NoList, "part a 9 | 1 1 1 | 1", "bounds"),
            (TooMany, "part wide 2 | -1 | 1 1 1 1 1 1 1 1", 4), (NoPart, "part a 2 | 0 0 | 1 1 0", None),
            (TooMany, "net tall", 5), (NotPlain, "stand a", None), (TooMany, "stand wide", 7),
            (NotPlain, "signs a", None),
            (TooMany, "signs wide", 5), (TooMany, "signs tall", 5), (NotPlain, "pack c", None),
        ):
            self.refused(kind, line, field)

    def test_a_refused_line_puts_nothing_in_place(self):
        for line in ("pivot a a 0 1", "piece b a | 9 | 0", "three c a d", "two a a zz", "table a x", "table b 1; 1 1"):
            with self.assertRaises(errors.SignError):
                self.desk.say(line)
            self.assertEqual(all_tables_of(self.desk), self.ahead)


class Places(Shared):
    def test_a_table_under_a_name_that_stands_is_put_in_its_place(self):
        for word in MAKING:
            desk = a_desk()
            desk.say(LINES[word].replace("N", "n"))
            wanted = desk.say("show n")
            for name in TEXTS:
                desk = a_desk()
                self.assertEqual(desk.say(LINES[word].replace("N", name)), "ok")
                self.assertEqual(all_tables_of(desk), {**self.ahead, name: wanted})

    def test_under_its_own_name(self):
        for line, text in (
            ("turn a a", "1 0; 0 1; -1 1"), ("piece a a | 1 | 2", "1"),
            ("beside a a a", "1 0 -1 0 0 0; 0 1 1 0 0 0; 0 0 0 1 0 -1; 0 0 0 0 1 1"),
            ("two a a a", "1 0 -1 0 1; 0 1 1 0 -1; 0 0 0 1 1"), ("pivot a a 0 0", "1 0 -1; 0 1 1"),
            ("table a 5", "5"),
        ):
            desk = a_desk()
            self.assertEqual(desk.say(line), "ok")
            self.assertEqual(all_tables_of(desk), {**self.ahead, "a": text})

    def test_other_tables_stay(self):
        desk = self.desk
        desk.say("turn t a")
        desk.say("beside s t t")
        desk.say("drop a")
        self.assertEqual(desk.say("show t"), "1 0; 0 1; -1 1")
        desk.say("table t 7")
        self.assertEqual(desk.say("show s"), "1 0 0 0; 0 1 0 0; -1 1 0 0; 0 0 1 0; 0 0 0 1; 0 0 -1 1")
        desk.say("turn s s")
        self.assertEqual(desk.say("show t"), "7")

    def test_lines_that_ask_change_nothing(self):
        for word, line in LINES.items():
            if word not in MAKING and word != "drop":
                desk = a_desk()
                answer = desk.say(line)
                self.assertEqual(desk.say(line), answer)
                self.assertEqual(all_tables_of(desk), self.ahead)

    def test_two_desks_know_nothing_of_one_another(self):
        one, other = Desk(), Desk()
        one.say("table a 1")
        self.assertEqual(other.say("tables"), "")
        raised(NoName, other.say, "show a")
        other.say("table a 2")
        self.assertEqual((one.say("show a"), other.say("show a")), ("1", "2"))
        other.say("drop a")
        self.assertEqual(one.say("tables"), "a")


if __name__ == "__main__":
    unittest.main()
