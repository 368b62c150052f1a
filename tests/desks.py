"""What the tests of the desk share: the lines of the interface, and the answers by the functions themselves."""

from signbook.desk import Desk
from signbook.nets import as_net
from signbook.packing import packed
from signbook.parting import parted, spread
from signbook.programs import best, unwhole
from signbook.rounding import rounded
from signbook.seven import signed
from signbook.signs import book
from signbook.squares import bad_square
from signbook.standing import together

# Each first word with a line of it: N stands for a new name, a to d for names of tables.
LINES = {
    "table": "table N 1 0; 0 1",
    "drop": "drop a",
    "tables": "tables",
    "show": "show a",
    "same": "same a b",
    "turn": "turn N a",
    "pivot": "pivot N a 0 0",
    "piece": "piece N a | 0 1 | 0",
    "beside": "beside N a b",
    "two": "two N a b",
    "three": "three N c d",
    "square": "square b",
    "book": "book a",
    "broken": "broken b",
    "best": "best a | 3 4 | 1 2 3",
    "round": "round a | 1/2 1/2 0",
    "part": "part a 2 | 1 2 | 2 1 1",
    "spread": "spread a",
    "net": "net a",
    "stand": "stand b",
    "signs": "signs b",
    "pack": "pack b",
}
MAKING = ("table", "turn", "pivot", "piece", "beside", "two", "three")

TEXTS = {
    "a": "1 0 -1; 0 1 1",
    "b": "1 1 0; 0 1 1; 1 0 1",
    "c": "7 5 5; 8 0 1",
    "d": "1 0 9; 4 4 3",
}


def a_desk():
    """Tell a desk with some tables."""
    desk = Desk()
    for name, text in TEXTS.items():
        desk.say(f"table {name} {text}")
    return desk


def words(values):
    """Tell whole numbers as words."""
    return " ".join(str(value) for value in values)


def parts_of(values):
    """Tell fractions as words."""
    return " ".join(str(top) if bottom == 1 else f"{top}/{bottom}" for top, bottom in values)


def rows_of(table):
    """Tell a table as rows of words."""
    return "; ".join(map(words, table))


def square_answer(table):
    found = bad_square(table)
    return "none" if found is None else f"{words(found[0])} | {words(found[1])} | {found[2]}"


def book_answer(table):
    return "\n".join(f"{words(rows)}: {words(signs)}" for rows, signs in book(table))


def broken_answer(table):
    found = unwhole(table)
    return "none" if found is None else f"{words(found[0])} | {words(found[1])} | {parts_of(found[2])}"


def best_answer(table, bounds, gains):
    told = best(table, bounds, gains)
    return "best " + parts_of([told[1]]) if told[0] == "best" else told[0]


def round_answer(table, xs):
    found = rounded(table, xs)
    return "none" if found is None else words(found)


def part_answer(table, many, bounds, xs):
    found = parted(table, bounds, xs, many=many)
    return "none" if found is None else rows_of(found)


def spread_answer(table):
    far, signs = spread(table)
    return f"{far} | {words(signs)}"


def net_answer(table):
    return "no" if as_net(table) is None else "yes"


def stand_answer(table):
    found = together(table)
    return "none" if found is None else words(found)


def signs_answer(table):
    told = signed(table)
    return rows_of(told[1]) if told[0] == "signed" else told[0]


def pack_answer(table):
    columns, rows = packed(table)
    return f"{words(columns)} | {words(rows)}"


def all_tables_of(desk):
    """Tell the texts of a desk's tables by their names."""
    names = desk.say("tables")
    return {name: desk.say(f"show {name}") for name in names.split(" ")} if names else {}
