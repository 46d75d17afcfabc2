"""What everything else is made of: integers, tuples, names and fractions."""

from math import gcd

GREATEST_BOTTOM = 10000
MOST_PARTS = 12
MOST_DEEP = 12

LETTERS = "abcdefghijklmnopqrstuvwxyz"
DIGITS = "0123456789"

# Two unlike fractions with bottoms up to GREATEST_BOTTOM are at least one part in so many apart.
FINENESS = 100000000

# Every judge below takes any object, also one that claims to be equal to
# everything: so the kind of a thing is asked ahead of all that compares it.


def is_integer(thing):
    """Whether the thing is an int that is not a bool."""
    return isinstance(thing, int) and not isinstance(thing, bool)


def is_tuple(thing, least, most):
    """Whether the thing is a tuple with at least the one and at most the other number of entries."""
    return isinstance(thing, tuple) and least <= len(thing) <= most


def are_integers(thing):
    """Whether the thing is a tuple of integers, however many."""
    return isinstance(thing, tuple) and all([is_integer(entry) for entry in thing])


def is_name(thing):
    """Whether the thing is a str of one to eight letters and digits that begins with a letter."""
    if not isinstance(thing, str) or not 1 <= len(thing) <= 8:
        return False
    return thing[0] in LETTERS and all([mark in LETTERS or mark in DIGITS for mark in thing])


def are_names(thing):
    """Whether the thing is a tuple of names, however many."""
    return isinstance(thing, tuple) and all([is_name(entry) for entry in thing])


def is_number(text, most):
    """Whether the text is at most so many digits, without a 0 ahead but for 0 itself."""
    if not 1 <= len(text) <= most or not all([mark in DIGITS for mark in text]):
        return False
    return text[0] != "0" or len(text) == 1


def is_fraction(thing):
    """Whether the thing is a tuple (top, bottom) in least terms, whatever the bottom."""
    if not is_tuple(thing, 2, 2):
        return False
    top, bottom = thing
    if not is_integer(top) or not is_integer(bottom) or bottom < 1:
        return False
    return gcd(top, bottom) == 1


def is_place(thing):
    """Whether the thing is a fraction from 0 to 1 such as points, holes and boxes have."""
    return is_fraction(thing) and 0 <= thing[0] <= thing[1] <= GREATEST_BOTTOM


def is_cut(thing):
    """Whether the thing is a fraction greater than 0 and less than 1, whatever the bottom."""
    return is_fraction(thing) and 0 < thing[0] < thing[1]


def is_less(one, other):
    """Whether one fraction is less than the other, as numbers."""
    return one[0] * other[1] < other[0] * one[1]


def weight(place):
    """An integer for a fraction such as cells have: the greater the one, the greater the other."""
    return place[0] * FINENESS // place[1]


def ascending(places):
    """The fractions, such as cells have, each once, from the least to the greatest."""
    known = {weight(place): place for place in places}
    return [known[key] for key in sorted(known)]


def rest_of(fraction):
    """What the fraction leaves of 1."""
    return (fraction[1] - fraction[0], fraction[1])


def added(one, other):
    """The sum of the two fractions."""
    return in_least_terms(one[0] * other[1] + other[0] * one[1], one[1] * other[1])


def apart(one, other):
    """How far the two fractions are apart, never less than 0."""
    return in_least_terms(abs(one[0] * other[1] - other[0] * one[1]), one[1] * other[1])


def in_least_terms(top, bottom):
    """The fraction that is so many parts of so many."""
    common = gcd(top, bottom)
    return (top // common, bottom // common)


def between(low, high, cut):
    """The fraction that lies between the two at the share of their distance that the cut tells."""
    top = low[0] * high[1] * (cut[1] - cut[0]) + high[0] * low[1] * cut[0]
    return in_least_terms(top, low[1] * high[1] * cut[1])


def share_of(low, high, middle):
    """At which share of the distance of the two the one between them lies."""
    top = (middle[0] * low[1] - low[0] * middle[1]) * high[1]
    bottom = (high[0] * low[1] - low[0] * high[1]) * middle[1]
    return in_least_terms(top, bottom)
