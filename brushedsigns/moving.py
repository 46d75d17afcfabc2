"""Moving: the moves that lead one sign to another one of the same picture."""

from brushedsigns.cuts import puttings
from brushedsigns.errors import BadMove
from brushedsigns.pictures import picture_of
from brushedsigns.signs import CUT_WORDS, check_sign
from brushedsigns.values import are_integers, between, is_less, is_tuple, share_of

# The two ends of a sign, between which its cut lies.
START = (0, 1)
END = (1, 1)


def moves_of(sign):
    """The moves that can be made in the sign, ascending."""
    check_sign(sign)
    return sorted(_moves(sign, ()))


def moved(sign, move):
    """The sign to which the move leads."""
    check_sign(sign)
    led = _led(sign, move)
    if led is None:
        raise BadMove("this is no move that can be made in the sign")
    return led


def moves_between(sign, other):
    """Some moves that lead from the one sign to the other, None if their pictures are not the same."""
    check_sign(sign)
    check_sign(other)
    if picture_of(sign) != picture_of(other):
        return None
    return _way(sign, other, ())


def moves_lead(sign, other, thing):
    """Whether the thing is a list of moves that leads from the one sign to the other."""
    check_sign(sign)
    check_sign(other)
    if not isinstance(thing, list):
        return False
    led = sign
    for move in thing:
        led = _led(led, move)
        if led is None:
            return False
    return led == other


def all_led(sign):
    """All signs to which moves lead from this one, ascending."""
    check_sign(sign)
    return puttings(picture_of(sign))


def plain(sign):
    """The sign in which no second sign of an across is an across, and none of a down a down."""
    check_sign(sign)
    return _plain(sign)


def _plain(sign):
    led = sign
    while (further := _left(led)) is not None:
        led = further
    for at in _steps_of(sign):
        led = _with_sign(led, at, _plain(led[at]))
    return led


def _steps_of(sign):
    """By which numbers the places of the signs in this one go on from its own."""
    if sign[0] == "part":
        return ()
    return (2,) if sign[0] == "within" else (2, 3)


def _with_sign(sign, at, inner):
    """The sign with another one in the place of the one in it."""
    return sign[:at] + (inner,) + sign[at + 1:]


def _moves(sign, place):
    found = [(word, place) for word in MOVES if _led_whole(sign, word) is not None]
    for at in _steps_of(sign):
        found.extend(_moves(sign[at], place + (at,)))
    return found


def _led(sign, move):
    """The sign to which any object leads that is a move to be made there, None for all else."""
    if not is_tuple(move, 2, 2) or not isinstance(move[0], str) or not are_integers(move[1]):
        return None
    word, place = move
    return _led_at(sign, place, word) if word in MOVES else None


def _led_at(sign, place, word):
    if len(place) == 0:
        return _led_whole(sign, word)
    at = place[0]
    if at not in _steps_of(sign):
        return None
    inner = _led_at(sign[at], place[1:], word)
    return None if inner is None else _with_sign(sign, at, inner)


def _led_whole(sign, word):
    move = MOVES[word]
    return move(sign)


# Each of the three moves of a whole sign: the sign to which it leads, None if it cannot be made.


def _left(sign):
    if sign[0] not in CUT_WORDS or sign[3][0] != sign[0]:
        return None
    word, cut, first, (_, later, second, third) = sign
    outer = between(cut, END, later)
    return (word, outer, (word, share_of(START, outer, cut), first, second), third)


def _right(sign):
    if sign[0] not in CUT_WORDS or sign[2][0] != sign[0]:
        return None
    word, cut, (_, sooner, first, second), third = sign
    outer = between(START, cut, sooner)
    return (word, outer, first, (word, share_of(outer, END, cut), second, third))


def _turn(sign):
    if sign[0] not in CUT_WORDS:
        return None
    word, cut, one, other = sign
    if one[0] not in CUT_WORDS or one[0] == word or one[:2] != other[:2]:
        return None
    return one[:2] + ((word, cut, one[2], other[2]), (word, cut, one[3], other[3]))


MOVES = {"left": _left, "right": _right, "turn": _turn}


def _way(sign, other, place):
    """The moves from a sign at the place to another one of the same picture: first those to its cut, then within."""
    led, moves = sign, []
    if other[0] in CUT_WORDS:
        led, moves = _brought(sign, other[0], other[1], place)
    for at in _steps_of(other):
        moves = moves + _way(led[at], other[at], place + (at,))
    return moves


def _brought(sign, word, cut, place):
    """The sign at the place, led so that it has a certain one of its picture's cuts on the outside, and the moves."""
    if sign[:2] == (word, cut):
        return sign, []
    # Where the cut goes through both signs, or through the one, they are first
    # led to have it on the outside themselves.
    if sign[0] != word:
        name, inner_cuts = "turn", {2: cut, 3: cut}
    elif is_less(sign[1], cut):
        name, inner_cuts = "left", {3: share_of(sign[1], END, cut)}
    else:
        name, inner_cuts = "right", {2: share_of(START, sign[1], cut)}
    led, moves = sign, []
    for at, inner_cut in inner_cuts.items():
        inner, ahead = _brought(led[at], word, inner_cut, place + (at,))
        led, moves = _with_sign(led, at, inner), moves + ahead
    return _led_whole(led, name), moves + [(name, place)]
