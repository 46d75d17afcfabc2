"""Writing: how a picture is written where something says at each cross by which word it is cut."""

from brushedsigns.boxes import WHOLE, share_at
from brushedsigns.cuts import indexes_in, partings_of
from brushedsigns.hands import as_written
from brushedsigns.pictures import inner_of, is_framed

# Which two sides of a box meet in each of its corners: upper left, upper right, lower left, lower right.
CORNERS = ((0, 2), (1, 2), (0, 3), (1, 3))


def write_by(picture, hand, say):
    """The sign by whose cuts the picture is written, and the crosses on the way.

    The picture is known to have a putting. `say(level, path, box)` is "across"
    or "down": what is said of a cross of the picture at a path. The crosses are
    told as (level, path, box, word), in the sequence of writing.
    """
    return _write_box(WHOLE, picture, (), hand, say)


def corners_in(picture, box):
    """The indexes of the cells in the corners of the box."""
    inside = indexes_in(picture, box)
    return tuple([
        index for side, end in CORNERS for index in inside
        if picture[index][side] == box[side] and picture[index][end] == box[end]])


def kinds_in(entries, picture, box):
    """The kinds of the parts or frames in the corners of the box, by a stock's entries."""
    return tuple([entries[picture[index][4][1]][1] for index in corners_in(picture, box)])


def _write_box(box, picture, path, hand, say):
    partings = partings_of(picture, box)
    if not partings:
        return _write_cell(indexes_in(picture, box)[0], picture, path, hand, say)
    word, asked = partings[0][0][0], []
    # Cuts across stand ahead of cuts down.
    if word != partings[-1][0][0]:
        word = say(picture, path, box)
        asked = [(picture, path, box, word)]
    (_, place), one, other = _first_cut(partings, word, hand)
    sign_of_one, asked_in_one = _write_box(one, picture, path, hand, say)
    sign_of_other, asked_in_other = _write_box(other, picture, path, hand, say)
    first, second = as_written(hand, word, asked_in_one, asked_in_other)
    return (word, share_at(box, word, place), sign_of_one, sign_of_other), asked + first + second


def _write_cell(index, picture, path, hand, say):
    cell = picture[index]
    if not is_framed(cell):
        return cell[4], []
    sign, asked = _write_box(WHOLE, inner_of(cell), path + (index,), hand, say)
    return ("within", cell[4][1], sign), asked


def _first_cut(partings, word, hand):
    """The first of the ways to part a box by cuts of that word, as the hand goes."""
    by_word = [parting for parting in partings if parting[0][0] == word]
    first, _ = as_written(hand, word, by_word[0], by_word[-1])
    return first
