"""Boxes: tuples (left, right, upper, lower) of fractions from 0 to 1.

A cell begins with the four sides of its box, so where a box is asked only
for its sides, a cell does as well.
"""

from brushedsigns.values import GREATEST_BOTTOM, between, is_less, is_place, is_tuple, share_of, weight

# The box that every sign and every picture fills.
WHOLE = ((0, 1), (1, 1), (0, 1), (1, 1))


def is_box(thing):
    """Whether the thing is a box, with bottoms such as cells have."""
    if not is_tuple(thing, 4, 4) or not all([is_place(side) for side in thing]):
        return False
    left, right, upper, lower = thing
    return is_less(left, right) and is_less(upper, lower)


def is_bounded(box):
    """Whether none of the box's fractions has too great a bottom."""
    return all([side[1] <= GREATEST_BOTTOM for side in box])


def box_key(box):
    """What boxes, and cells, are sorted by, so that their fractions compare as numbers."""
    return tuple([weight(side) for side in box[:4]])


def lies_in(box, other):
    """Whether the one box lies within the other."""
    if is_less(box[0], other[0]) or is_less(other[1], box[1]):
        return False
    return not is_less(box[2], other[2]) and not is_less(other[3], box[3])


def overlap(box, other):
    """Whether the two boxes have more in common than a side or a corner."""
    if not is_less(box[0], other[1]) or not is_less(other[0], box[1]):
        return False
    return is_less(box[2], other[3]) and is_less(other[2], box[3])


def parted_at(box, word, place):
    """The two boxes into which a cut, "across" or "down" at a place in the whole picture, parts it."""
    left, right, upper, lower = box
    if word == "across":
        return (left, place, upper, lower), (place, right, upper, lower)
    return (left, right, upper, place), (left, right, place, lower)


def parted(box, word, cut):
    """The two boxes into which a cut, "across" or "down" at a share of the box, parts it."""
    low, high = _sides(box, word)
    return parted_at(box, word, between(low, high, cut))


def share_at(box, word, place):
    """At which share of the box a cut lies that is at a place in the whole picture."""
    low, high = _sides(box, word)
    return share_of(low, high, place)


def drawn_into(box, region):
    """The box, told by a picture's own whole, where this picture is drawn into the region."""
    left, right, upper, lower = region
    across = (between(left, right, box[0]), between(left, right, box[1]))
    return across + (between(upper, lower, box[2]), between(upper, lower, box[3]))


def drawn_out(box, region):
    """The box, which lies in the region, told by this as by a whole of its own."""
    left, right, upper, lower = region
    across = (share_of(left, right, box[0]), share_of(left, right, box[1]))
    return across + (share_of(upper, lower, box[2]), share_of(upper, lower, box[3]))


def _sides(box, word):
    """The two sides of the box between which a cut of that word lies."""
    return box[:2] if word == "across" else box[2:]
