"""Stocks: the parts and frames of which signs are put together."""

from brushedsigns.boxes import is_box
from brushedsigns.errors import BadName, BadStock
from brushedsigns.values import is_integer, is_name, is_place, is_tuple


def is_stock(thing):
    """Whether the thing is a stock: (parts, frames), no name standing twice."""
    if not is_tuple(thing, 2, 2):
        return False
    parts, frames = thing
    if not is_tuple(parts, 1, 12) or not is_tuple(frames, 0, 6):
        return False
    if not all([_is_part(part) for part in parts]) or not all([_is_frame(frame) for frame in frames]):
        return False
    names = [entry[0] for entry in parts + frames]
    return len(set(names)) == len(names)


def kind_of(stock, name):
    """The kind of the part or frame of that name."""
    return _entry(stock, name)[1]


def sorts_of(stock, name):
    """The sorts of the strokes of the part or frame of that name, in their sequence."""
    return tuple([stroke[0] for stroke in _entry(stock, name)[2]])


def check_stock(thing):
    """Raises BadStock for any object that is no stock."""
    if not is_stock(thing):
        raise BadStock("this is no stock")


def entries_by_name(stock):
    """The parts and frames of what is known to be a stock, by their names."""
    parts, frames = stock
    return {entry[0]: entry for entry in parts + frames}


def _entry(stock, name):
    """The part or frame of that name."""
    check_stock(stock)
    entries = entries_by_name(stock)
    if not is_name(name) or name not in entries:
        raise BadName("the stock has no part or frame of this name")
    return entries[name]


def _is_part(thing):
    return is_tuple(thing, 3, 3) and is_name(thing[0]) and is_name(thing[1]) and _are_strokes(thing[2])


def _is_frame(thing):
    if not is_tuple(thing, 5, 5) or not _is_part(thing[:3]):
        return False
    strokes, hole, last = thing[2:]
    return is_box(hole) and is_integer(last) and 0 <= last <= len(strokes)


def _are_strokes(thing):
    return is_tuple(thing, 1, 8) and all([_is_stroke(stroke) for stroke in thing])


def _is_stroke(thing):
    return is_tuple(thing, 2, 2) and is_name(thing[0]) and _are_points(thing[1])


def _are_points(thing):
    return is_tuple(thing, 2, 6) and all([_is_point(point) for point in thing])


def _is_point(thing):
    return is_tuple(thing, 2, 2) and is_place(thing[0]) and is_place(thing[1])
