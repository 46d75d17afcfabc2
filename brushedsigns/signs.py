"""Signs: how parts and frames are put together, and the texts of signs."""

from brushedsigns.boxes import WHOLE, is_bounded, parted
from brushedsigns.errors import BadSign, BadText
from brushedsigns.values import MOST_DEEP, MOST_PARTS, is_cut, is_name, is_number, is_tuple

CUT_WORDS = ("across", "down")
SIGN_WORDS = ("part", "within", "across", "down")

# A cut is the distance of two sides of boxes told by that of two others, whose
# bottoms are at most 10,000: none that fits comes near to as many digits.
MOST_DIGITS = 30


def is_sign(thing):
    """Whether the thing is a sign, its three bounds kept."""
    return _filling(thing, WHOLE, MOST_PARTS) > 0


def size_of(sign):
    """How many parts and frames stand in the sign."""
    check_sign(sign)
    return _size(sign)


def depth_of(sign):
    """How many signs stand within one another, a part alone being one."""
    check_sign(sign)
    return _depth(sign)


def write_sign(sign):
    """The text of the sign."""
    check_sign(sign)
    return " ".join(_words_of(sign))


def read_sign(text):
    """The sign of which this is the text."""
    if not isinstance(text, str):
        raise BadText(0)
    words = text.split(" ")
    sign, behind, _ = _read(words, 0, WHOLE, 1, 0)
    if behind < len(words):
        raise BadText(behind)
    return sign


def check_sign(thing):
    """Raises BadSign for any object that is no sign."""
    if not is_sign(thing):
        raise BadSign("this is no sign")


def _filling(thing, box, room):
    """How many parts and frames stand in a sign in the box, 0 if it is no sign or there is no room for them."""
    # Signs within one another are never more than the parts and frames in
    # the outermost one, so the room is a bound for them, too.
    if room < 1 or not is_tuple(thing, 2, 4) or not isinstance(thing[0], str):
        return 0
    word = thing[0]
    if word in CUT_WORDS:
        return _filling_of_cut(thing, box, room)
    if not is_name(thing[1]):
        return 0
    if word == "part" and len(thing) == 2:
        return 1
    if word == "within" and len(thing) == 3:
        inner = _filling(thing[2], WHOLE, room - 1)
        return inner + 1 if inner > 0 else 0
    return 0


def _filling_of_cut(thing, box, room):
    if len(thing) != 4 or not is_cut(thing[1]):
        return 0
    word, cut, one, other = thing
    box_of_one, box_of_other = parted(box, word, cut)
    if not is_bounded(box_of_one):
        return 0
    first = _filling(one, box_of_one, room - 1)
    if first == 0:
        return 0
    second = _filling(other, box_of_other, room - first)
    return first + second if second > 0 else 0


def _size(sign):
    if sign[0] == "part":
        return 1
    if sign[0] == "within":
        return 1 + _size(sign[2])
    return _size(sign[2]) + _size(sign[3])


def _depth(sign):
    if sign[0] == "part":
        return 1
    return 1 + max([_depth(inner) for inner in sign[2:]])


def _words_of(sign):
    """The words of the sign, from the outside."""
    if sign[0] == "part":
        return ["part", sign[1]]
    if sign[0] == "within":
        return ["within", sign[1]] + _words_of(sign[2])
    word, (top, bottom), one, other = sign
    return [word, f"{top}/{bottom}"] + _words_of(one) + _words_of(other)


def _read(words, at, box, deep, many):
    """The sign that begins at a word, the index behind it, and how many parts and frames are read by then.

    `deep` tells how many signs stand within one another down to this one,
    `many` how many parts and frames were read ahead of it.
    """
    word = _word(words, at)
    if word not in SIGN_WORDS or deep > MOST_DEEP:
        raise BadText(at)
    if word in CUT_WORDS:
        return _read_cut(words, at, box, deep, many)
    if many == MOST_PARTS:
        raise BadText(at)
    name = _word(words, at + 1)
    if not is_name(name):
        raise BadText(at + 1)
    if word == "part":
        return ("part", name), at + 2, many + 1
    inner, behind, total = _read(words, at + 2, WHOLE, deep + 1, many + 1)
    return ("within", name, inner), behind, total


def _read_cut(words, at, box, deep, many):
    cut = _cut_told(_word(words, at + 1))
    if cut is None:
        raise BadText(at + 1)
    box_of_one, box_of_other = parted(box, words[at], cut)
    if not is_bounded(box_of_one):
        raise BadText(at + 1)
    one, middle, so_far = _read(words, at + 2, box_of_one, deep + 1, many)
    other, behind, total = _read(words, middle, box_of_other, deep + 1, so_far)
    return (words[at], cut, one, other), behind, total


def _word(words, at):
    """The word at an index; behind the last one an empty word, which fits nowhere."""
    return words[at] if at < len(words) else ""


def _cut_told(word):
    """The cut that a word tells, None if it tells none."""
    top, _, bottom = word.partition("/")
    if not is_number(top, MOST_DIGITS) or not is_number(bottom, MOST_DIGITS):
        return None
    cut = (int(top), int(bottom))
    return cut if is_cut(cut) else None
