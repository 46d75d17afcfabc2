"""Cuts: how pictures can be parted, and the signs that put them together.

A table tells of a picture each box that comes by cutting it, and the ways to
part this: (cut, box, box) each, ascending. Tables tell the same of the picture
and of those within its frames, by the paths of the frames, () for the picture.
"""

from brushedsigns.boxes import WHOLE, box_key, is_box, lies_in, overlap, parted_at, share_at
from brushedsigns.errors import BadBox, TooMany
from brushedsigns.pictures import (
    check_picture, inner_of, is_framed, levels_of, picture_of, ranked_sides, with_inner)
from brushedsigns.signs import is_sign
from brushedsigns.values import are_integers, in_least_terms, is_less, is_tuple, weight

MOST_PUTTINGS = 500


def cuts_of(picture, box):
    """The cuts of the box, ascending."""
    _check_box(picture, box)
    return [parting[0] for parting in partings_of(picture, box)]


def boxes_of(picture):
    """The boxes that come by cutting the picture, ascending."""
    check_picture(picture)
    return sorted(table_of(picture), key=box_key)


def cells_in(picture, box):
    """The indexes of the cells within the box, ascending."""
    _check_box(picture, box)
    return tuple(indexes_in(picture, box))


def count_puttings(picture):
    """How many signs have this picture."""
    check_picture(picture)
    return _count(picture)


def first_putting(picture):
    """The first sign that has this picture, None if none has."""
    check_picture(picture)
    tables = tables_of(picture)
    if bars_in(picture, tables):
        return None
    return first_by(picture, tables)


def puttings(picture):
    """All signs that have this picture, ascending."""
    check_picture(picture)
    many = _count(picture)
    if many > MOST_PUTTINGS:
        raise TooMany("the picture has too many puttings to list them")
    return _puttings(picture) if many > 0 else []


def is_putting(picture, thing):
    """Whether the thing is a sign that has this picture."""
    check_picture(picture)
    return is_sign(thing) and picture_of(thing) == picture


def bar_of(picture):
    """None if the picture has a putting, else the first box that bars it: (path, box)."""
    check_picture(picture)
    bars = bars_in(picture, tables_of(picture))
    return bars[0] if bars else None


def bar_holds(picture, thing):
    """Whether the thing is some box that bars a putting: (path, box)."""
    check_picture(picture)
    return is_among(thing, bars_in(picture, tables_of(picture)))


def ranks_of(picture):
    """The picture with its numbers told by their ranks, also within frames."""
    check_picture(picture)
    return _ranks(picture)


def same_shape(picture, other):
    """Whether the two pictures are the same but for the numbers."""
    check_picture(picture)
    check_picture(other)
    return _ranks(picture) == _ranks(other)


def evened(picture):
    """The picture of the same ranks in which neighbouring numbers are equally far apart."""
    check_picture(picture)
    return _evened(_ranks(picture))


# What the other modules ask of pictures that are known to be some.


def indexes_in(picture, box):
    """The ascending list of the indexes of the cells within the box."""
    return [index for index, cell in enumerate(picture) if lies_in(cell, box)]


def partings_of(picture, box):
    """The ways to part the box: (cut, box, box), ascending."""
    cells = [cell for cell in picture if lies_in(cell, box)]
    across = [("across", place) for place in _gaps([cell[:2] for cell in cells])]
    down = [("down", place) for place in _gaps([cell[2:4] for cell in cells])]
    return [(cut,) + parted_at(box, cut[0], cut[1]) for cut in across + down]


def table_by(part):
    """All boxes that come by parting the whole one, each with the ways to part it that `part` tells of a box."""
    table = {}
    waiting = [WHOLE]
    while waiting:
        box = waiting.pop()
        if box not in table:
            table[box] = part(box)
            for parting in table[box]:
                waiting.extend(parting[1:])
    return table


def table_of(picture):
    """All boxes that come by cutting the picture, each with the ways to part it."""
    return table_by(lambda box: partings_of(picture, box))


def tables_of(picture):
    """The tables of the picture and of those within its frames."""
    return {path: table_of(level) for path, level in levels_of(picture)}


def bars_in(picture, tables):
    """The boxes of two cells or more that the tables do not part: (path, box), ascending."""
    found = []
    for path, level in levels_of(picture):
        table = tables[path]
        cells = [cell[:4] for cell in level]
        barred = [box for box in table if not table[box] and box not in cells]
        found.extend([(path, box) for box in sorted(barred, key=box_key)])
    return found


def is_among(thing, bars):
    """Whether any object is one of these (path, box), where None may stand for a box, too."""
    # Integers and fractions are asked for first: True and objects that claim
    # to be equal to everything stand for none.
    if not is_tuple(thing, 2, 2) or not are_integers(thing[0]):
        return False
    return (thing[1] is None or is_box(thing[1])) and thing in bars


def first_by(picture, tables):
    """The first sign of the picture that is cut as the tables part it; they have no bar."""
    return _first_in(WHOLE, picture, (), tables)


def _check_box(picture, thing):
    """Raises BadPicture, or BadBox for any object that is not made of whole cells of the picture."""
    check_picture(picture)
    if not is_box(thing) or not all([lies_in(cell, thing) or not overlap(cell, thing) for cell in picture]):
        raise BadBox("this is no box of the picture")


def _gaps(spans):
    """The numbers inside that no span has between its two, ascending, for spans that leave no hole."""
    ascending_spans = sorted(spans, key=lambda span: weight(span[0]))
    found = []
    reach = ascending_spans[0][1]
    for low, high in ascending_spans:
        if not is_less(low, reach):
            found.append(low)
        if is_less(reach, high):
            reach = high
    return found


def _count(picture):
    counts = {cell[:4]: _count(inner_of(cell)) if is_framed(cell) else 1 for cell in picture}
    return _count_in(WHOLE, table_of(picture), counts)


def _count_in(box, table, counts):
    """How many ways there are to put the box together; `counts` keeps what is known."""
    if box not in counts:
        counts[box] = sum(
            [_count_in(one, table, counts) * _count_in(other, table, counts) for _, one, other in table[box]])
    return counts[box]


def _puttings(picture):
    known = {cell[:4]: _contents_put(cell[4]) for cell in picture}
    return _puttings_in(WHOLE, table_of(picture), known)


def _contents_put(content):
    """The signs that a cell of this content may have, ascending."""
    if content[0] == "part":
        return [content]
    return [("within", content[1], sign) for sign in _puttings(content[2])]


def _puttings_in(box, table, known):
    """The signs of the box; they ascend as cuts, then first signs, then second ones are taken in their sequence."""
    if box not in known:
        found = []
        for (word, place), one, other in table[box]:
            cut = share_at(box, word, place)
            firsts = _puttings_in(one, table, known)
            seconds = _puttings_in(other, table, known)
            found.extend([(word, cut, first, second) for first in firsts for second in seconds])
        known[box] = found
    return known[box]


def _first_in(box, picture, path, tables):
    partings = tables[path][box]
    if partings:
        (word, place), one, other = partings[0]
        first = _first_in(one, picture, path, tables)
        return (word, share_at(box, word, place), first, _first_in(other, picture, path, tables))
    index = indexes_in(picture, box)[0]
    return with_inner(picture[index][4], lambda inner: _first_in(WHOLE, inner, path + (index,), tables))


def _ranks(picture):
    across, down = ranked_sides(picture)
    return tuple([
        (across[left], across[right], down[upper], down[lower], with_inner(content, _ranks))
        for left, right, upper, lower, content in picture])


def _evened(ranks):
    width = max([cell[1] for cell in ranks])
    height = max([cell[3] for cell in ranks])
    cells = []
    for left, right, upper, lower, content in ranks:
        across = (in_least_terms(left, width), in_least_terms(right, width))
        down = (in_least_terms(upper, height), in_least_terms(lower, height))
        cells.append(across + down + (with_inner(content, _evened),))
    return tuple(cells)
