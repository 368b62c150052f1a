"""Fractions rounded so that the sums of a table's rows are rounded, too."""

from signbook.fractions import ceiling_of, floor_of, fraction
from signbook.lists import all_lists, check_fractions
from signbook.squares import bad_square
from signbook.tables import check_table, led, row_totals


def rounded(table, xs):
    """Tell the least list of floors and ceilings that rounds each row's sum likewise, or None."""
    check_table(table)
    check_fractions(xs, len(table[0]), "xs")
    ends = [(floor_of(total), ceiling_of(total)) for total in led(table, xs)]
    for whole in all_rounded(xs):
        if is_between(table, whole, ends):
            return whole
    return None


def all_rounded(xs):
    """Tell all lists of floors and ceilings of fractions, sorted."""
    # Of a whole number floor and ceiling are one, which must not be tried twice.
    return all_lists([list(range(floor_of(x), ceiling_of(x) + 1)) for x in xs])


def is_between(table, whole, ends):
    """Tell whether each row's sum of entries times whole numbers lies between its two ends."""
    return all([low <= total <= high for total, (low, high) in zip(row_totals(table, whole), ends)])


def unrounded(table):
    """Tell a list of halves and noughts that can't be rounded; None of a unimodular table."""
    found = bad_square(table)
    if found is None:
        return None
    _, columns, _ = found
    return [fraction(1, 2) if at in columns else fraction(0) for at in range(len(table[0]))]
