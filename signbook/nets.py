"""Nets: trees of ends, and arcs from place to place, each with the way between its places along the ends."""

from signbook.errors import NoArcs, NoTree, TooMany
from signbook.lists import all_lists
from signbook.tables import MOST, check_table, is_place, turned

MOST_ROWS = 5


def net_table(ends, arcs):
    """Tell the table with a row for each end and a column for each arc that tells how its way runs along the end."""
    check_ends(ends)
    check_arcs(arcs, len(ends) + 1)
    told = []
    for at in range(len(ends)):
        sides = first_side(ends, at)
        told.append([sides[start] - sides[stop] for start, stop in arcs])
    return told


def check_ends(thing):
    """Refuse what are no ends of a tree."""
    if not isinstance(thing, list) or not 1 <= len(thing) <= MOST:
        raise NoTree(-1)
    groups = list(range(len(thing) + 1))
    for at, end in enumerate(thing):
        # An end whose places hang together closes a round, one of a single place among them.
        if not is_arc(end, len(groups)) or groups[end[0]] == groups[end[1]]:
            raise NoTree(at)
        groups = joined(groups, end[0], end[1])


def check_arcs(thing, many):
    """Refuse what are no arcs between so many places."""
    if not isinstance(thing, list) or not 1 <= len(thing) <= MOST:
        raise NoArcs(-1)
    for at, arc in enumerate(thing):
        if not is_arc(arc, many):
            raise NoArcs(at)


def is_arc(thing, many):
    """Tell of anything whether it is a tuple of two of so many places."""
    return isinstance(thing, tuple) and len(thing) == 2 and all([is_place(place, many) for place in thing])


def joined(groups, one, other):
    """Tell the group of each place, once the groups of two places are one."""
    return [groups[one] if group == groups[other] else group for group in groups]


def first_side(ends, at):
    """Tell 1 of each place that hangs together with an end's first one but by this end, 0 of the others."""
    groups = list(range(len(ends) + 1))
    for start, stop in ends[:at] + ends[at + 1:]:
        groups = joined(groups, start, stop)
    start, _ = ends[at]
    return [1 if group == groups[start] else 0 for group in groups]


def as_net(table):
    """Tell ("net", ends, arcs) of which the table is the net_table; None where it is that of none."""
    check_table(table)
    if len(table) > MOST_ROWS:
        raise TooMany(MOST_ROWS)
    columns = turned(table)
    ends = tree_for(columns, len(table), [])
    if ends is None:
        return None
    return ("net", ends, [arc_for(ends, column) for column in columns])


def tree_for(columns, many, ends):
    """Tell so many ends, grown from those of the first rows, by which each column is the way of an arc, or None.

    Where the last end of a tree is drawn together, what is left of each way is a way again. So the
    trees of all rows are grown from those of the first rows alone.
    """
    if len(ends) == many:
        return ends
    for grown in all_grown(ends):
        if all([arc_for(grown, column) is not None for column in columns]):
            found = tree_for(columns, many, grown)
            if found is not None:
                return found
    return None


def all_grown(ends):
    """Tell all trees with one end more that are these ends again where that one is drawn together."""
    new = len(ends) + 1
    told = []
    for place in range(new):
        # Each end at the place may stay there, or go to the new one behind the new end.
        choices = [[end, moved(end, place, new)] if place in end else [end] for end in ends]
        told.extend([grown + [(place, new)] for grown in all_lists(choices)])
    return told


def moved(end, place, new):
    """Tell the end with a new place instead of one of its own."""
    start, stop = end
    return (new, stop) if start == place else (start, new)


def arc_for(ends, column):
    """Tell an arc whose way along the ends has the first entries of a column, or None.

    Of what runs along the ends by these entries as much comes to each place as goes on from it, but
    for the first and the last place of a way. A tree has no rounds, so nothing else does so.
    """
    over = [0 for _ in range(len(ends) + 1)]
    for (start, stop), entry in zip(ends, column):
        over[start] += entry
        over[stop] -= entry
    rest = sorted([many for many in over if many != 0])
    if not rest:
        return (0, 0)
    return (over.index(1), over.index(-1)) if rest == [-1, 1] else None


def is_net(table, thing):
    """Tell of anything whether it is a net, as as_net tells one, of which the table is the net_table."""
    check_table(table)
    if not isinstance(thing, tuple) or len(thing) != 3:
        return False
    word, ends, arcs = thing
    if not isinstance(word, str) or word != "net":
        return False
    try:
        told = net_table(ends, arcs)
    except (NoTree, NoArcs):
        return False
    return told == table
