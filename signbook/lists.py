"""Lists of numbers that stand beside a table, one for each row or for each column, and all lists of choices."""

from signbook.errors import NoList
from signbook.fractions import is_fraction, is_whole


def is_long(thing, many):
    """Tell of anything whether it is a list of so many things."""
    return isinstance(thing, list) and len(thing) == many


def is_numbers(thing, many):
    """Tell of anything whether it is a list of so many whole numbers."""
    return is_long(thing, many) and all([is_whole(number) for number in thing])


def is_fractions(thing, many):
    """Tell of anything whether it is a list of so many fractions."""
    return is_long(thing, many) and all([is_fraction(value) for value in thing])


def check_numbers(thing, many, word):
    """Refuse what is no list of so many whole numbers, by the word for it."""
    if not is_numbers(thing, many):
        raise NoList(word)


def check_fractions(thing, many, word):
    """Refuse what is no list of so many fractions, by the word for it."""
    if not is_fractions(thing, many):
        raise NoList(word)


def check_small(thing, many, most, word):
    """Refuse what is no list of so many whole numbers from 0 to the most, by the word for it."""
    check_numbers(thing, many, word)
    if not all([0 <= number <= most for number in thing]):
        raise NoList(word)


def all_lists(choices):
    """Tell all lists that have, place by place, one of the choices there, in the order of these."""
    told = [[]]
    for some in choices:
        told = [ahead + [one] for ahead in told for one in some]
    return told
