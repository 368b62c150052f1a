"""What the tests of nets share: trees and arcs to try, ways followed step by step, and all trees of a few ends."""

from functools import cache
from itertools import product as choices
from random import Random

ROUND = [[1, 0, 0, 1, -1], [-1, 1, 0, 0, 1], [1, -1, 1, 0, 0], [0, 1, -1, 1, 0], [0, 0, 1, -1, 1]]


def some_ends(many, chance):
    """Tell the ends of a tree, in any order and turned either way, with the places by any numbers."""
    places = list(range(many + 1))
    chance.shuffle(places)
    ends = [(places[at], places[chance.randrange(at)]) for at in range(1, many + 1)]
    chance.shuffle(ends)
    return [end if chance.random() < 0.5 else end[::-1] for end in ends]


def some_arcs(many, places, chance):
    """Tell as many arcs, some of them of one place."""
    return [(chance.randrange(places), chance.randrange(places)) for _ in range(many)]


def all_some_nets(many, seed, most=8):
    """Tell (ends, arcs), the same ones each time."""
    chance = Random(seed)
    for _ in range(many):
        rows = chance.randint(1, most)
        yield some_ends(rows, chance), some_arcs(chance.randint(1, 8), rows + 1, chance)


def walk(ends, start, stop):
    """Tell the places of the way from one place to another, step by step."""
    ways = [[start]]
    while ways:
        way = ways.pop()
        if way[-1] == stop:
            return way
        for end in ends:
            if way[-1] in end:
                beyond = end[1] if end[0] == way[-1] else end[0]
                if beyond not in way:
                    ways.append(way + [beyond])
    raise AssertionError("no way")


def slow_net_table(ends, arcs):
    """Tell the table of a net by walking each arc's way."""
    table = [[0] * len(arcs) for _ in ends]
    for column, (start, stop) in enumerate(arcs):
        way = walk(ends, start, stop)
        for step in zip(way, way[1:]):
            for row, end in enumerate(ends):
                if set(end) == set(step):
                    table[row][column] = 1 if end == step else -1
    return table


@cache
def all_columns(many):
    """Tell, for each tree of so many ends, the columns that its arcs have.

    Each end is the one from a place of its own, 1 to many, to the place above it, on towards 0.
    """
    told = set()
    for above in choices(range(many + 1), repeat=many):
        ups = [ends_above(above, place) for place in range(many + 1)]
        if None not in ups:
            columns = {
                tuple((at in up) - (at in down) for at in range(1, many + 1)) for up in ups for down in ups
            }
            for signs in choices((1, -1), repeat=many):
                told.add(frozenset(tuple(x * sign for x, sign in zip(column, signs)) for column in columns))
    return list(told)


def ends_above(above, place):
    """Tell the ends from a place up to 0, or None where these go round."""
    told = []
    while place != 0:
        if place in told:
            return None
        told.append(place)
        place = above[place - 1]
    return told


def is_some_net(table):
    """Tell, by all trees, whether a table is that of a net."""
    columns = frozenset(zip(*table))
    return any(columns <= known for known in all_columns(len(table)))
