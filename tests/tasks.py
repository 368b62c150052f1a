"""What the tests of tasks share: tasks to try, and answers judged by the sums that the document states."""

from fractions import Fraction
from math import gcd
from random import Random

from samples import NO_LISTS, NO_WHOLES, raised, some_tables, some_wholes, sound_tables
from signbook.errors import NoList

LONG = 10 ** 39 + 7
UNFIT = object()


def amounts(thing, many):
    """Tell the numbers of a list of so many fractions none of which is below nought, or UNFIT."""
    if type(thing) is not list or len(thing) != many:
        return UNFIT
    values = [value_of(value) for value in thing]
    return UNFIT if any(value is UNFIT or value < 0 for value in values) else values


def value_of(thing):
    """Tell the number that a fraction stands for, or UNFIT."""
    if type(thing) is not tuple or len(thing) != 2 or not all(type(part) is int for part in thing):
        return UNFIT
    top, bottom = thing
    return Fraction(top, bottom) if bottom > 0 and gcd(top, bottom) == 1 else UNFIT


def total(numbers, values):
    """Tell the sum of numbers times values."""
    return sum(number * value for number, value in zip(numbers, values))


def fits(table, bounds, thing):
    """Tell whether a thing is a list of amounts within the bounds."""
    xs = amounts(thing, len(table[0]))
    return xs is not UNFIT and all(total(row, xs) <= bound for row, bound in zip(table, bounds))


def holds(table, bounds, gains, answer):
    """Tell whether an answer is one, by the sums of point [21]."""
    if type(answer) is not tuple or not answer or type(answer[0]) is not str:
        return False
    columns = list(zip(*table))
    if answer[0] == "best" and len(answer) == 4:
        value, x, prices = value_of(answer[1]), answer[2], amounts(answer[3], len(table))
        return (
            UNFIT is not value and fits(table, bounds, x) and prices is not UNFIT
            and all(total(column, prices) >= gain for column, gain in zip(columns, gains))
            and total(gains, amounts(x, len(columns))) == value == total(bounds, prices)
        )
    if answer[0] == "open" and len(answer) == 3:
        x, way = answer[1:]
        return (
            fits(table, bounds, x) and fits(table, [0] * len(table), way)
            and total(gains, amounts(way, len(columns))) > 0
        )
    if answer[0] == "none" and len(answer) == 2:
        prices = amounts(answer[1], len(table))
        return (
            prices is not UNFIT and all(total(column, prices) >= 0 for column in columns)
            and total(bounds, prices) < 0
        )
    return False


def some_tasks(many, seed, most=3, low=-1, high=1):
    """Tell tasks (table, bounds, gains) of all shapes, the same ones each time."""
    chance = Random(seed)
    for table in some_tables(many, low, high, seed):
        yield table, some_wholes(len(table), chance, most), some_wholes(len(table[0]), chance, most)


def sound_tasks(many, seed, most=3):
    """Tell tasks of unimodular tables, the same ones each time."""
    chance = Random(seed)
    for table in sound_tables(many, seed):
        yield table, some_wholes(len(table), chance, most), some_wholes(len(table[0]), chance, most)


def mild_tasks(many, seed, most=3):
    """Tell tasks most of which have a best value: all bounds are nought or more, and one has all columns in it."""
    chance = Random(seed)
    for table, bounds, gains in some_tasks(many, seed, most, -1, 2):
        table[chance.randrange(len(table))] = [chance.randint(1, 2) for _ in gains]
        yield table, [abs(bound) for bound in bounds], gains


def whole_numbers(answer):
    """Tell whether all fractions in an answer are whole."""
    for thing in answer[1:]:
        if not all(bottom == 1 for _, bottom in ([thing] if type(thing) is tuple else thing)):
            return False
    return True


def wrong_lists(right):
    """Tell things that are no list of as many whole numbers as the right one."""
    yield from NO_LISTS
    yield from ([], right + [0], right[:-1], tuple(right), {at: at for at in range(len(right))}, [right])
    for at in range(len(right)):
        for thing in NO_WHOLES:
            yield right[:at] + [thing] + right[at + 1:]


def check_refused(word, call, *given, **named):
    """Make sure that a call is refused with NoList by a word."""
    told = raised(NoList, call, *given, **named).word
    assert told == word, f"{told} for {word}"
