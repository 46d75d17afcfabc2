"""Hands: which of the two sides of a cut is written first."""

from brushedsigns.errors import BadHand
from brushedsigns.values import is_tuple

ACROSS_WORDS = ("left", "right")
DOWN_WORDS = ("upper", "lower")
# All hands, ascending.
HANDS = (("left", "lower"), ("left", "upper"), ("right", "lower"), ("right", "upper"))


def is_hand(thing):
    """Whether the thing is a hand."""
    if not is_tuple(thing, 2, 2) or not isinstance(thing[0], str) or not isinstance(thing[1], str):
        return False
    return thing[0] in ACROSS_WORDS and thing[1] in DOWN_WORDS


def check_hand(thing):
    """Raises BadHand for any object that is no hand."""
    if not is_hand(thing):
        raise BadHand("this is no hand")


def as_written(hand, word, one, other):
    """What belongs to the left or upper side of a cut and what to the other side, in the sequence of the hand."""
    if word == "across":
        is_first = hand[0] == "left"
    else:
        is_first = hand[1] == "upper"
    return (one, other) if is_first else (other, one)
