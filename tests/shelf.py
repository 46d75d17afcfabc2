"""Stocks and books that several tests use, and some by chance."""

import random

from brushedsigns.cuts import count_puttings
from tests import oracles
from tests.drawn import LEFT_UPPER
from tests.things import DOT, HOLE, LINE

# The stock of the desk: each part of a kind of its own, one frame.
DOWN = ("down", (((0, 1), (0, 1)), ((0, 1), (1, 1))))
CLOSE = ("close", (((0, 1), (1, 1)), ((1, 1), (1, 1))))
Z = ((("a", "a", (LINE,)), ("b", "b", (DOT,)), ("c", "c", (LINE,)), ("d", "d", (DOT,))),
     (("f", "f", (DOWN, CLOSE), HOLE, 1),))
# Parts and frames that have kinds in common, with unlike numbers of strokes and of last ones.
HOOK = ("hook", (((1, 3), (0, 1)), ((2, 7), (1, 5)), ((1, 1), (2, 9)), ((0, 1), (0, 1))))
SLANT = ("slant", (((1, 4), (1, 9)), ((3, 5), (7, 8))))
MIXED = (
    (("b", "k", (DOT, LINE)), ("a", "k", (LINE,)), ("d", "n", (SLANT, DOT, HOOK)), ("c", "m", (HOOK,))),
    (("g", "n", (LINE, HOOK, SLANT), ((1, 7), (2, 3), (2, 5), (8, 9)), 3),
     ("f", "k", (SLANT, DOT), ((0, 1), (1, 1), (1, 10), (9, 10)), 0)))
ONE_KIND = ((("a", "k", (LINE,)), ("b", "k", (DOT,)), ("c", "k", (LINE,)), ("d", "k", (DOT,))),
            (("f", "k", (DOWN, CLOSE), HOLE, 2), ("g", "k", (DOWN, CLOSE), HOLE, 0)))
STOCKS = [MIXED, ONE_KIND]
ACROSS = (LEFT_UPPER, (), "across")
DOWN_FIRST = (LEFT_UPPER, (), "down")
KINDS = ("k", "m", "n", None, "zz")


def rule_by_chance(chance, kinds=KINDS):
    some = [None] * chance.randint(1, 6) + [kind for kind in kinds if kind]
    return tuple(chance.choice(some) for _ in range(4)) + (chance.choice(["across", "down"]),)


def book_by_chance(chance, most=6):
    rules = tuple(rule_by_chance(chance) for _ in range(chance.randint(0, most)))
    return (chance.choice(oracles.HANDS), rules, chance.choice(["across", "down"]))


def put_pictures(many, seed, room=12, most=300):
    """Pictures by chance of the stocks that have puttings."""
    chance = random.Random(seed)
    found = []
    while len(found) < many:
        picture = oracles.picture_by_chance(chance, chance.randint(1, room), chance.choice([2, 3, 4, 6]))
        if 0 < count_puttings(picture) <= most:
            found.append(picture)
    return found
