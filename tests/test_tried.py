"""Points [57] and [58]: trials at a desk, behind which it has just the tables that stood ahead."""

import unittest

from desks import LINES, MAKING, TEXTS, a_desk, all_tables_of
from samples import Odd, raised
from signbook.desk import Desk
from signbook.errors import NoLine, NoName, NoPick, NotWhole, NoText

NO_LISTS_OF_TEXTS = [
    None, True, 0, "", "tables", b"tables", (), ("tables",), {}, {"tables": 1}, {"tables"}, object(), Odd(), [None],
    ["tables", None], [0], [True], ["tables", ["tables"]], [b"tables"], [("tables",)], ["tables", Odd()], [[]], [{}],
]


class Tried(unittest.TestCase):
    def setUp(self):
        self.desk = a_desk()
        self.ahead = all_tables_of(self.desk)

    def check(self, lines, answers):
        self.assertEqual(self.desk.tried(lines), answers)
        self.assertEqual(all_tables_of(self.desk), self.ahead)

    def test_the_answers_one_by_one(self):
        self.check([], [])
        self.check(["tables"], ["a b c d"])
        self.check(["turn t a", "show t", "turn t t", "same t a", "drop t", "tables"], [
            "ok", "1 0; 0 1; -1 1", "ok", "yes", "ok", "a b c d",
        ])
        self.check(["table a 5", "show a", "drop b", "tables", "drop a", "tables"], [
            "ok", "5", "ok", "a c d", "ok", "c d",
        ])
        self.check(["drop a", "drop b", "drop c", "drop d", "tables", "table a 1", "tables"], [
            "ok", "ok", "ok", "ok", "", "ok", "a",
        ])

    def test_each_line_as_it_is_told_for_good(self):
        for word, line in LINES.items():
            line = line.replace("N", "n")
            lines = [line, "show n"] if word in MAKING else [line, "tables"]
            other = a_desk()
            self.check(lines, [other.say(one) for one in lines])
        lines = [LINES[word].replace("N", "n") for word in LINES if word != "drop"] + ["drop n", "drop a", "tables"]
        other = a_desk()
        self.check(lines, [other.say(line) for line in lines])

    def test_a_refusal_goes_on_and_the_tables_stay(self):
        for kind, line, field in (
            (NoName, "show zz", "zz"), (NoText, "table n 1; x", 1), (NoLine, "shout a", None),
            (NoPick, "pivot n a 9 0", 0), (NotWhole, "book b", [0, 1, 2]), (NoName, "show a", "a"),
        ):
            ahead = ["table n 1", "table b 1 1 0; 0 1 1; 1 0 1", "turn d d", "piece a a | 0 | 0"]
            ahead.append("drop a" if line == "show a" else "turn c c")
            told = raised(kind, self.desk.tried, [*ahead, line, "drop c"])
            self.assertEqual(list(vars(told).values()), [] if field is None else [field])
            self.assertEqual(all_tables_of(self.desk), self.ahead)

    def test_the_lines_behind_a_refused_one_are_not_told(self):
        raised(NoName, self.desk.tried, ["show zz", "shout"])
        raised(NoLine, self.desk.tried, ["shout", "show zz"])
        raised(NoText, self.desk.tried, ["table n x", "show zz", "shout"])

    def test_what_is_no_list_of_texts(self):
        for thing in NO_LISTS_OF_TEXTS:
            raised(NoLine, self.desk.tried, thing)
            raised(NoLine, self.desk.tried, lines=thing)
        # Ahead of the lines themselves, a wrong one among them.
        raised(NoLine, self.desk.tried, ["show zz", None])
        raised(NoLine, self.desk.tried, ["table n x", 7])
        self.assertEqual(all_tables_of(self.desk), self.ahead)

    def test_a_trial_within_says(self):
        desk = Desk()
        desk.say("table a 1 1")
        self.assertEqual(desk.tried(["table b 2", "turn a a", "show a"]), ["ok", "ok", "1; 1"])
        self.assertEqual(desk.say("tables"), "a")
        desk.say("table b 3")
        self.assertEqual(desk.tried(["show b", "drop b", "drop a", "tables"]), ["3", "ok", "ok", ""])
        self.assertEqual(desk.say("show a"), "1 1")
        desk.say("drop a")
        self.assertEqual(desk.tried(["table a 4", "tables"]), ["ok", "a b"])
        self.assertEqual(desk.say("tables"), "b")
        self.assertEqual(all_tables_of(desk), {"b": "3"})

    def test_trials_of_two_desks(self):
        other = Desk()
        other.say("table a 9")
        self.check(["table b 1", "drop a"], ["ok", "ok"])
        self.assertEqual(all_tables_of(other), {"a": "9"})
        self.assertEqual(sorted(self.ahead), sorted(TEXTS))

    def test_what_is_handed_in_stays_and_what_is_told_is_new(self):
        lines = ["tables", "turn n a", "show n"]
        told = self.desk.tried(lines)
        self.assertIsNot(told, lines)
        again = list(told)
        told[0] = "spoilt"
        told.append("spoilt")
        self.assertEqual(lines, ["tables", "turn n a", "show n"])
        self.assertEqual(self.desk.tried(lines), again)


if __name__ == "__main__":
    unittest.main()
