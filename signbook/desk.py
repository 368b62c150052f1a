"""The desk: tables by names, asked and made by lines of text."""

from signbook.errors import NoLine, NoName, NoText
from signbook.nets import as_net
from signbook.packing import packed
from signbook.parting import parted, spread
from signbook.programs import best, unwhole
from signbook.rounding import rounded
from signbook.seven import signed
from signbook.signs import book
from signbook.squares import bad_square
from signbook.standing import together
from signbook.sums import beside, three_sum, two_sum
from signbook.tables import piece, pivoted, turned
from signbook.texts import number_of, read_fractions, read_numbers, read_table, show_fractions, show_numbers, show_table

LETTERS = "abcdefghijklmnopqrstuvwxyz"
LONGEST = 8


def told_table(table):
    """Make the table that a line has as a text."""
    return table


def told_turned(table):
    """Make the turned table."""
    return turned(table)


def told_pivoted(table, row, column):
    """Make the pivoted table."""
    return pivoted(table, row, column)


def told_piece(table, rows, columns):
    """Make the piece of a table."""
    return piece(table, rows, columns)


def told_beside(one, other):
    """Make two tables' table beside one another."""
    return beside(one, other)


def told_two(one, other):
    """Make two tables' sum by a column and a row."""
    return two_sum(one, other)


def told_three(one, other):
    """Make two tables' sum by two columns and rows."""
    return three_sum(one, other)


def told_show(table):
    """Tell a table's text."""
    return show_table(table)


def told_same(one, other):
    """Tell whether two tables are the same."""
    return yes_or_no(one == other)


def told_square(table):
    """Tell a table's least bad square."""
    found = bad_square(table)
    if found is None:
        return "none"
    rows, columns, value = found
    return beside_bars([show_numbers(rows), show_numbers(columns), show_numbers([value])])


def told_book(table):
    """Tell a table's book, a row for each page."""
    return "\n".join([f"{show_numbers(rows)}: {show_numbers(signs)}" for rows, signs in book(table)])


def told_broken(table):
    """Tell the bounds and gains whose only best is broken."""
    found = unwhole(table)
    if found is None:
        return "none"
    bounds, gains, x = found
    return beside_bars([show_numbers(bounds), show_numbers(gains), show_fractions(x)])


def told_best(table, bounds, gains):
    """Tell the best value of a task, or the word for there being none."""
    answer = best(table, bounds, gains)
    return f"best {show_fractions([answer[1]])}" if answer[0] == "best" else answer[0]


def told_round(table, xs):
    """Tell the fractions rounded."""
    whole = rounded(table, xs)
    return "none" if whole is None else show_numbers(whole)


def told_part(table, many, bounds, xs):
    """Tell the parts of whole numbers."""
    found = parted(table, bounds, xs, many=many)
    return "none" if found is None else "; ".join([show_numbers(part) for part in found])


def told_spread(table):
    """Tell the least that a signing is out, and the first such signing."""
    far, signs = spread(table)
    return beside_bars([show_numbers([far]), show_numbers(signs)])


def told_net(table):
    """Tell whether a table is that of a net."""
    return yes_or_no(as_net(table) is not None)


def told_stand(table):
    """Tell the order in which a table's ones stand together."""
    order = together(table)
    return "none" if order is None else show_numbers(order)


def told_signs(table):
    """Tell the signed table, or the kind of piece that bars it."""
    answer = signed(table)
    return show_table(answer[1]) if answer[0] == "signed" else answer[0]


def told_pack(table):
    """Tell the greatest packing and the least cover."""
    columns, rows = packed(table)
    return beside_bars([show_numbers(columns), show_numbers(rows)])


def beside_bars(texts):
    """Tell the texts as one, with a bar between them."""
    return " | ".join(texts)


def yes_or_no(answer):
    """Tell the word for a truth."""
    return "yes" if answer else "no"


# For each first word: what stands behind it among the words, what in the other parts, and what is done with
# all that but a new name. The desk itself sees to the lines without a deed.
LINES = {
    "table": (("new",), ("table",), told_table),
    "drop": (("name",), (), None),
    "tables": ((), (), None),
    "show": (("name",), (), told_show),
    "same": (("name", "name"), (), told_same),
    "turn": (("new", "name"), (), told_turned),
    "pivot": (("new", "name", "number", "number"), (), told_pivoted),
    "piece": (("new", "name"), ("numbers", "numbers"), told_piece),
    "beside": (("new", "name", "name"), (), told_beside),
    "two": (("new", "name", "name"), (), told_two),
    "three": (("new", "name", "name"), (), told_three),
    "square": (("name",), (), told_square),
    "book": (("name",), (), told_book),
    "broken": (("name",), (), told_broken),
    "best": (("name",), ("numbers", "numbers"), told_best),
    "round": (("name",), ("fractions",), told_round),
    "part": (("name", "number"), ("numbers", "numbers"), told_part),
    "spread": (("name",), (), told_spread),
    "net": (("name",), (), told_net),
    "stand": (("name",), (), told_stand),
    "signs": (("name",), (), told_signs),
    "pack": (("name",), (), told_pack),
}


def line_parts(line):
    """Tell the words and the other parts of what must be a text."""
    if not isinstance(line, str):
        raise NoLine("a line is a text")
    ahead, _, behind = line.partition(" ")
    name, blank, text = behind.partition(" ")
    # A table's text is not parted, whatever stands in it.
    if ahead == "table" and blank:
        return ([ahead, name], [text])
    pieces = line.split(" | ")
    return (pieces[0].split(" "), pieces[1:])


def line_form(words, others):
    """Tell the kinds of what stands behind a line's first word, and its deed; refuse what has no such form."""
    if words[0] not in LINES:
        raise NoLine("no line begins so")
    word_kinds, other_kinds, deed = LINES[words[0]]
    if len(words) != len(word_kinds) + 1 or len(others) != len(other_kinds):
        raise NoLine("another number of words or of parts")
    kinds = word_kinds + other_kinds
    if "new" in kinds and not is_name(words[1]):
        raise NoLine("no name for a table")
    return (kinds, deed)


def is_name(word):
    """Tell whether a word may be the name of a table."""
    return 1 <= len(word) <= LONGEST and all([letter in LETTERS for letter in word])


def read_as(kind, text):
    """Tell what a text of some kind stands for."""
    if kind == "number":
        return read_number(text)
    if kind == "numbers":
        return read_numbers(text)
    if kind == "fractions":
        return read_fractions(text)
    return read_table(text)


def read_number(word):
    """Tell the whole number of which a word is the text."""
    number = number_of(word)
    if number is None:
        raise NoText(0)
    return number


class Desk:
    """Tables by names, asked and made by lines."""

    def __init__(self):
        self.tables = {}

    def say(self, line):
        """Tell the answer to a line, and do what it asks for."""
        words, others = line_parts(line)
        kinds, deed = line_form(words, others)
        given = words[1:] + others
        self.check_names(kinds, given)
        if words[0] == "tables":
            return " ".join(sorted(self.tables))
        if words[0] == "drop":
            del self.tables[given[0]]
            return "ok"
        values = [self.meant(kind, text) for kind, text in zip(kinds, given) if kind != "new"]
        answer = deed(*values)
        if "new" not in kinds:
            return answer
        self.tables[given[0]] = answer
        return "ok"

    def check_names(self, kinds, given):
        """Refuse the first name by which no table stands."""
        for kind, text in zip(kinds, given):
            if kind == "name" and text not in self.tables:
                raise NoName(text)

    def meant(self, kind, text):
        """Tell the table by a name, or what a text stands for."""
        return self.tables[text] if kind == "name" else read_as(kind, text)

    def tried(self, lines):
        """Tell the answers to a list of lines; behind it the tables are those ahead, whatever comes of it."""
        if not isinstance(lines, list) or not all([isinstance(line, str) for line in lines]):
            raise NoLine("no list of texts")
        # No table is ever changed in place, so it is enough to keep which of them stand.
        held = dict(self.tables)
        try:
            return [self.say(line) for line in lines]
        finally:
            self.tables = held
