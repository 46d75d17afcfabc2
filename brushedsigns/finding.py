"""Finding: pictures within pictures, taken out, put in, exchanged and compared."""

from brushedsigns.boxes import box_key, drawn_into, drawn_out, is_box, lies_in, overlap
from brushedsigns.cuts import indexes_in, table_of
from brushedsigns.errors import BadBox, TooMany
from brushedsigns.pictures import (
    check_picture, in_sequence, inner_of, is_framed, is_picture, levels_of, with_inner)
from brushedsigns.stocked import check_picture_of, check_signs
from brushedsigns.stocks import check_stock


def taken_out(picture, box):
    """The picture of what is in the box, drawn out to the whole box."""
    check_picture(picture)
    _check_box(picture, box)
    return _checked(_taken(picture, box))


def found_in(picture, other):
    """Where in the picture and within its frames the other one is found: (path, box), ascending."""
    check_picture(picture)
    check_picture(other)
    return _places_of(other, picture)


def put_in(picture, box, other):
    """The picture with the other one in the place of what is in the box."""
    check_picture(picture)
    _check_box(picture, box)
    check_picture(other)
    return _checked(_with_boxes_filled(picture, [box], other))


def exchanged(picture, other, third):
    """The picture with the third one in each place where the other one is found."""
    check_picture(picture)
    check_picture(other)
    check_picture(third)
    return _checked(_exchanged_at((), picture, _apart(_places_of(other, picture)), third))


def least_unlike(picture, other):
    """None if the pictures are the same, else the least box outside of which they are, and what the other has in it.

    It is told as (path, box, picture).
    """
    check_picture(picture)
    check_picture(other)
    return None if picture == other else _least_unlike((), picture, other)


def one_part_apart(stock, signs):
    """The words of each two signs that are the same but for the name of one part: (word, word)."""
    check_stock(stock)
    check_signs(stock, signs)
    found = []
    for at, (word, picture) in enumerate(signs):
        found.extend([(word, other) for other, later in signs[at + 1:] if _is_one_part_apart(picture, later)])
    return found


def parts_in(picture):
    """How many parts of which name there are, also within frames: (name, number), ascending."""
    check_picture(picture)
    counts = {}
    for name in _part_names(picture):
        counts[name] = counts.get(name, 0) + 1
    return sorted(counts.items())


def signs_with(stock, signs, picture):
    """The words of the signs in whose pictures the picture is found."""
    check_stock(stock)
    check_signs(stock, signs)
    check_picture_of(stock, picture)
    return [word for word, around in signs if _places_of(picture, around)]


def _check_box(picture, thing):
    """Raises BadBox for any object that is no box that comes by cutting the picture."""
    if not is_box(thing) or thing not in table_of(picture):
        raise BadBox("this is no box that comes by cutting the picture")


def _checked(made):
    """What was made of pictures, TooMany if it is none itself."""
    # All but the bounds of a picture holds for it.
    if not is_picture(made):
        raise TooMany("there is more in this than can be in a picture")
    return made


def _taken(picture, box):
    """The cells in the box, drawn out; no picture if a bottom is too great."""
    return tuple([drawn_out(picture[index], box) + picture[index][4:] for index in indexes_in(picture, box)])


def _places_of(other, picture):
    """Where the other picture is found in this one: (path, box), ascending."""
    found = []
    for path, level in levels_of(picture):
        boxes = sorted(table_of(level), key=box_key)
        found.extend([(path, box) for box in boxes if _taken(level, box) == other])
    return found


def _apart(places):
    """The places, but for those that overlap one ahead of them."""
    # No place is within a frame in another one: a picture is not found in
    # what is within its own frames.
    taken = []
    for path, box in places:
        if not any([ahead == path and overlap(box, other) for ahead, other in taken]):
            taken.append((path, box))
    return taken


def _cells_not_in(picture, box):
    return [cell for cell in picture if not lies_in(cell, box)]


def _with_boxes_filled(picture, boxes, other):
    """The picture with the other one in the place of what is in each of the boxes; perhaps none."""
    cells = list(picture)
    for box in boxes:
        cells = _cells_not_in(cells, box) + [drawn_into(cell, box) + cell[4:] for cell in other]
    return in_sequence(cells)


def _exchanged_at(path, picture, places, third):
    """The picture at the path with the third one in the places, also within its frames; perhaps none."""
    cells = [
        cell[:4] + (_content_exchanged(path + (index,), cell[4], places, third),) for index, cell in enumerate(picture)]
    return _with_boxes_filled(cells, [box for at, box in places if at == path], third)


def _content_exchanged(path, content, places, third):
    return with_inner(content, lambda inner: _exchanged_at(path, inner, places, third))


def _least_unlike(path, picture, other):
    """What least_unlike returns of two unlike pictures, which are those within frames at the path."""
    # Where the cells outside are the same, a box that comes by cutting the one comes by cutting the other, too.
    boxes = [box for box in table_of(picture) if _cells_not_in(picture, box) == _cells_not_in(other, box)]
    innermost = [box for box in boxes if all([lies_in(box, around) for around in boxes])]
    least = innermost[0]
    index = indexes_in(picture, least)[0]
    cell, later = picture[index], other[index]
    if cell[:4] == least and later[:4] == least and is_framed(cell) and is_framed(later) and cell[4][1] == later[4][1]:
        return _least_unlike(path + (index,), inner_of(cell), inner_of(later))
    return (path, least, _checked(_taken(other, least)))


def _is_one_part_apart(picture, other):
    if _without_names(picture) != _without_names(other):
        return False
    unlike = [name for name, later in zip(_part_names(picture), _part_names(other)) if name != later]
    return len(unlike) == 1


def _without_names(picture):
    """The picture without the names of its parts."""
    return [(cell[:4], _content_without_names(cell[4])) for cell in picture]


def _content_without_names(content):
    return content[0] if content[0] == "part" else (content[1], _without_names(content[2]))


def _part_names(picture):
    """The names of all parts, in the sequence of their paths."""
    found = []
    for cell in picture:
        found.extend(_part_names(inner_of(cell)) if is_framed(cell) else [cell[4][1]])
    return found
