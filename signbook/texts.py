"""Numbers, fractions and tables written as texts, and read back."""

from math import gcd

from signbook.errors import NoText
from signbook.tables import MOST, check_table

MOST_FIGURES = 400
FIGURES = "0123456789"


def show_numbers(numbers):
    """Tell the text of a list of whole numbers."""
    return " ".join([str(number) for number in numbers])


def show_fractions(fractions):
    """Tell the text of a list of fractions."""
    return " ".join([str(top) if bottom == 1 else f"{top}/{bottom}" for top, bottom in fractions])


def show_table(table):
    """Tell the text of a table."""
    check_table(table)
    return "; ".join([show_numbers(row) for row in table])


def read_numbers(text):
    """Tell the list of whole numbers of which something is the text."""
    return all_read([number_of(word) for word in words_of(text)])


def read_fractions(text):
    """Tell the list of fractions of which something is the text."""
    return all_read([fraction_of(word) for word in words_of(text)])


def read_table(text):
    """Tell the table of which something is the text."""
    check_text(text)
    told = []
    for at, row in enumerate(text.split("; ")):
        numbers = [number_of(word) for word in row.split(" ")]
        if at == MOST or None in numbers or len(numbers) > MOST or (told and len(numbers) != len(told[0])):
            raise NoText(at)
        told.append(numbers)
    return told


def check_text(thing):
    """Refuse what is no text."""
    if not isinstance(thing, str):
        raise NoText(-1)


def words_of(text):
    """Tell the words of something that must be a text."""
    check_text(text)
    return text.split(" ") if text else []


def all_read(values):
    """Tell what has been read, which is refused at the first word that could not be."""
    if None in values:
        raise NoText(values.index(None))
    return values


def number_of(word):
    """Tell the whole number of which a word is the text, or None."""
    figures = word[1:] if word.startswith("-") else word
    # Python itself reads more than this, figures of other scripts and blanks among it.
    if not 1 <= len(figures) <= MOST_FIGURES or not all([sign in FIGURES for sign in figures]):
        return None
    if word != "0" and figures.startswith("0"):
        return None
    return int(word)


def fraction_of(word):
    """Tell the fraction of which a word is the text, or None."""
    ahead, slash, behind = word.partition("/")
    top = number_of(ahead)
    bottom = number_of(behind) if slash else 1
    if top is None or bottom is None or (slash and bottom < 2) or gcd(top, bottom) != 1:
        return None
    return (top, bottom)
