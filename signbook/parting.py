"""Whole numbers taken apart: into lists within bounds, or into two halves that every row's sum takes for alike."""

from signbook.errors import NoList, NoPart, TooMany
from signbook.fractions import is_whole
from signbook.lists import all_lists, check_numbers, check_small
from signbook.programs import check_bounds
from signbook.signs import are_small
from signbook.tables import check_table, row_totals

MOST_COLUMNS = 4
MOST_PARTS = 4
MOST_EACH = 4


def parted(table, bounds, xs, *, many):
    """Tell the least list of so many lists within the bounds that add up to the xs, or None."""
    check_bounds(table, bounds)
    check_small(xs, len(table[0]), MOST_EACH, "xs")
    if not is_whole(many) or not 1 <= many <= MOST_PARTS:
        raise NoList("many")
    if len(xs) > MOST_COLUMNS:
        raise TooMany(MOST_COLUMNS)
    if not is_kept(table, [many * bound for bound in bounds], xs):
        raise NoPart("the xs are not within as many times the bounds")
    fitting = {tuple(part): True for part in all_below(xs) if is_kept(table, bounds, part)}
    return first_parts(xs, many, fitting, {})


def is_kept(table, bounds, xs):
    """Tell whether whole numbers, none below nought, are within the bounds."""
    return all([total <= bound for total, bound in zip(row_totals(table, xs), bounds)])


def all_below(xs):
    """Tell all lists of whole numbers from nought to the xs, sorted."""
    return all_lists([list(range(x + 1)) for x in xs])


def first_parts(xs, many, fitting, failed):
    """Tell the least list of so many fitting lists that add up to the xs, or None.

    What is found to have no such list is put into failed, so that it isn't gone through again.
    """
    if many == 1:
        return [list(xs)] if tuple(xs) in fitting else None
    if (many, tuple(xs)) in failed:
        return None
    for part in all_below(xs):
        if tuple(part) in fitting:
            behind = first_parts([x - taken for x, taken in zip(xs, part)], many - 1, fitting, failed)
            if behind is not None:
                return [part] + behind
    failed[many, tuple(xs)] = True
    return None


def spread(table):
    """Tell the least that any signing of the table is out, and the first signing that is so far out."""
    check_table(table)
    signings = all_lists([(1, -1) for _ in table[0]])
    # Of several that are as far out the first is kept, as min does.
    return min([(how_far(table, signs), signs) for signs in signings], key=lambda told: told[0])


def how_far(table, signs):
    """Tell how far a signing of the table is out."""
    return max([abs(total) for total in row_totals(table, signs)])


def halved(table, xs):
    """Tell two lists that add up to the xs and differ by at most 1, in each row's sum too, the least one first."""
    check_table(table)
    check_numbers(xs, len(table[0]), "xs")
    for one in all_lists([halves(x) for x in xs]):
        other = [x - half for x, half in zip(xs, one)]
        gaps = [half - rest for half, rest in zip(one, other)]
        if are_small(row_totals(table, gaps)):
            return (one, other)
    return None


def halves(x):
    """Tell the whole numbers that differ by at most 1 from what they leave of x, sorted."""
    return list(range(x // 2, x - x // 2 + 1))
