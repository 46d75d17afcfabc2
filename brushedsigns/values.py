"""What everything else is made of: integers, tuples, names, fractions and boxes."""

from math import gcd

GREATEST_BOTTOM = 10000
MOST_PARTS = 12
MOST_DEEP = 12

LETTERS = "abcdefghijklmnopqrstuvwxyz"
DIGITS = "0123456789"

# A box is (left, right, upper, lower); this is the one that every sign fills.
WHOLE = ((0, 1), (1, 1), (0, 1), (1, 1))

# Every judge below takes any object, also one that claims to be equal to
# everything: so the kind of a thing is asked ahead of all that compares it.


def is_integer(thing):
    """Whether the thing is an int that is not a bool."""
    return isinstance(thing, int) and not isinstance(thing, bool)


def is_tuple(thing, least, most):
    """Whether the thing is a tuple with at least the one and at most the other number of entries."""
    return isinstance(thing, tuple) and least <= len(thing) <= most


def is_name(thing):
    """Whether the thing is a str of one to eight letters and digits that begins with a letter."""
    if not isinstance(thing, str) or not 1 <= len(thing) <= 8:
        return False
    return thing[0] in LETTERS and all([mark in LETTERS or mark in DIGITS for mark in thing])


def is_fraction(thing):
    """Whether the thing is a tuple (top, bottom) in least terms, whatever the bottom."""
    if not is_tuple(thing, 2, 2):
        return False
    top, bottom = thing
    if not is_integer(top) or not is_integer(bottom) or bottom < 1:
        return False
    return gcd(top, bottom) == 1


def is_place(thing):
    """Whether the thing is a fraction from 0 to 1 such as points, holes and boxes have."""
    return is_fraction(thing) and 0 <= thing[0] <= thing[1] <= GREATEST_BOTTOM


def is_cut(thing):
    """Whether the thing is a fraction greater than 0 and less than 1, whatever the bottom."""
    return is_fraction(thing) and 0 < thing[0] < thing[1]


def is_less(one, other):
    """Whether one fraction is less than the other, as numbers."""
    return one[0] * other[1] < other[0] * one[1]


def between(low, high, cut):
    """The fraction, in least terms, that lies between the two at the share of their distance that the cut tells."""
    top = low[0] * high[1] * (cut[1] - cut[0]) + high[0] * low[1] * cut[0]
    bottom = low[1] * high[1] * cut[1]
    common = gcd(top, bottom)
    return (top // common, bottom // common)


def parted(box, word, cut):
    """The two boxes into which a cut, "across" or "down" and a share of the box, parts it."""
    left, right, upper, lower = box
    if word == "across":
        middle = between(left, right, cut)
        return (left, middle, upper, lower), (middle, right, upper, lower)
    middle = between(upper, lower, cut)
    return (left, right, upper, middle), (left, right, middle, lower)


def is_bounded(box):
    """Whether none of the box's fractions has too great a bottom."""
    return all([side[1] <= GREATEST_BOTTOM for side in box])
