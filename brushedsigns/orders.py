"""Orders: in which sequences signs of a picture write its parts and frames, and where these part."""

from brushedsigns.boxes import WHOLE, box_key
from brushedsigns.cuts import (
    bars_in, first_by, indexes_in, is_among, partings_of, table_by, table_of, tables_of)
from brushedsigns.errors import BadOrder
from brushedsigns.hands import as_written, check_hand
from brushedsigns.pictures import (
    SOME_HAND, all_paths, below, check_picture, inner_of, is_framed, leaves_of, levels_of)
from brushedsigns.signs import check_sign
from brushedsigns.values import are_integers

# The bar of an order that parts a frame from what is within it.
PARTED_FRAME = ((), None)


def order_of(sign, hand):
    """The paths of all parts and frames of the sign as the hand writes them."""
    check_sign(sign)
    check_hand(hand)
    return tuple(_order(sign, hand))


def orders_of(picture, hand):
    """The unlike orders in which the signs of the picture write it, ascending."""
    check_picture(picture)
    check_hand(hand)
    return _orders(picture, hand)


def count_orders(picture):
    """How many unlike orders the signs of the picture have, as many by each hand."""
    check_picture(picture)
    return len(_orders(picture, SOME_HAND))


def crosses_of(picture):
    """The boxes that can be cut both across and down: (path, box), ascending."""
    check_picture(picture)
    return _crosses_in(picture, tables_of(picture))


def one_order(picture):
    """Whether the picture has signs, and all write it in one order."""
    check_picture(picture)
    tables = tables_of(picture)
    return not bars_in(picture, tables) and not _crosses_in(picture, tables)


def unlike_parts(picture, hand):
    """The two parts or frames each that some orders write the one way round, some the other, ascending."""
    check_picture(picture)
    check_hand(hand)
    tables = tables_of(picture)
    if bars_in(picture, tables):
        return []
    paths = all_paths(picture)
    found = []
    for path, level in levels_of(picture):
        for one, other in _unlike_cells(level, tables[path], hand):
            firsts = _from_path(path + (one,), paths)
            seconds = _from_path(path + (other,), paths)
            found.extend([(min(first, second), max(first, second)) for first in firsts for second in seconds])
    return sorted(set(found))


def order_putting(picture, hand, order):
    """The first sign of the picture that has this order, None if none has."""
    _check_order(picture, hand, order)
    if not _keeps_frames(order):
        return None
    tables = _allowed_tables(picture, hand, order)
    if bars_in(picture, tables):
        return None
    return first_by(picture, tables)


def order_bar(picture, hand, order):
    """None if some sign of the picture has the order, else the first box that bars it: (path, box)."""
    _check_order(picture, hand, order)
    bars = _order_bars(picture, hand, order)
    return bars[0] if bars else None


def order_bar_holds(picture, hand, order, thing):
    """Whether the thing is some box that bars the order: (path, box)."""
    _check_order(picture, hand, order)
    return is_among(thing, _order_bars(picture, hand, order))


# What the other modules ask of pictures and orders.


def is_order(picture, thing):
    """Whether any object is a tuple of all paths of what is known to be a picture, each once."""
    if not isinstance(thing, tuple) or not all([are_integers(path) for path in thing]):
        return False
    return sorted(thing) == all_paths(picture)


def sequence_at(order, path):
    """The indexes of the cells of the picture within the frame at a path, of the whole one for (), as ordered."""
    return [other[-1] for other in order if other[:-1] == path]


def _check_order(picture, hand, thing):
    """Raises BadPicture, BadHand, or BadOrder for any object that is no tuple of all paths of the picture."""
    check_picture(picture)
    check_hand(hand)
    if not is_order(picture, thing):
        raise BadOrder("these are not all paths of the picture, each once")


def _order(sign, hand):
    leaves = leaves_of(sign, WHOLE, hand)
    boxes = sorted([box for box, _ in leaves], key=box_key)
    found = []
    for box, leaf in leaves:
        path = (boxes.index(box),)
        found.append(path)
        if leaf[0] == "within":
            found.extend(below(path, _order(leaf[2], hand)))
    return found


def _orders(picture, hand):
    known = {cell[:4]: _orders_of_cell((index,), cell, hand) for index, cell in enumerate(picture)}
    return _orders_in(WHOLE, table_of(picture), hand, known)


def _orders_of_cell(path, cell, hand):
    if not is_framed(cell):
        return [(path,)]
    return [(path,) + tuple(below(path, inner)) for inner in _orders(inner_of(cell), hand)]


def _orders_in(box, table, hand, known):
    """The unlike orders of the box, ascending; `known` keeps those that are found."""
    if box not in known:
        found = []
        for (word, _), one, other in table[box]:
            orders_of_one = _orders_in(one, table, hand, known)
            orders_of_other = _orders_in(other, table, hand, known)
            firsts, seconds = as_written(hand, word, orders_of_one, orders_of_other)
            found.extend([first + second for first in firsts for second in seconds])
        known[box] = sorted(set(found))
    return known[box]


def _crosses_in(picture, tables):
    found = []
    for path, _ in levels_of(picture):
        table = tables[path]
        crosses = [box for box in table if _cuts_by(table[box], "across") and _cuts_by(table[box], "down")]
        found.extend([(path, box) for box in sorted(crosses, key=box_key)])
    return found


def _cuts_by(partings, word):
    """The ways to part a box by cuts of that word."""
    return [parting for parting in partings if parting[0][0] == word]


def _unlike_cells(picture, table, hand):
    """The two cells each that stand in a cross on the diagonal on which the hand's two words do not agree."""
    found = []
    for partings in list(table.values()):
        for _, left, right in _cuts_by(partings, "across"):
            for _, upper, lower in _cuts_by(partings, "down"):
                early, late = as_written(hand, "across", left, right)
                high, low = as_written(hand, "down", upper, lower)
                ones = indexes_in(picture, early[:2] + low[2:])
                others = indexes_in(picture, late[:2] + high[2:])
                found.extend([(one, other) for one in ones for other in others])
    return found


def _from_path(path, paths):
    """Those of the paths that are this one or paths of what is within the frame there."""
    return [other for other in paths if other[:len(path)] == path]


def _keeps_frames(order):
    """Whether the order writes behind each frame, with nothing between, all that is within it."""
    for index, path in enumerate(order):
        inner = len(_from_path(path, order)) - 1
        if len(_from_path(path, order[index + 1:index + 1 + inner])) < inner:
            return False
    return True


def _order_bars(picture, hand, order):
    """The boxes that bar the order: (path, box), ascending."""
    if not _keeps_frames(order):
        return [PARTED_FRAME]
    return bars_in(picture, _allowed_tables(picture, hand, order))


def _allowed_tables(picture, hand, order):
    """The tables of the cuts that the order allows, for an order that keeps its frames."""
    tables = {}
    for path, level in levels_of(picture):
        tables[path] = _allowed_table(level, hand, sequence_at(order, path))
    return tables


def _allowed_table(picture, hand, sequence):
    """The boxes that come by cutting along cuts that the sequence of the cells allows, each with these cuts."""
    return table_by(lambda box: _allowed_partings(picture, box, hand, sequence))


def _allowed_partings(picture, box, hand, sequence):
    return [parting for parting in partings_of(picture, box) if _is_allowed(picture, hand, sequence, parting)]


def _is_allowed(picture, hand, sequence, parting):
    """Whether all of the one side is written ahead of all of the other, as the hand wants."""
    cut, one, other = parting
    first, second = as_written(hand, cut[0], one, other)
    last_of_first = max([sequence.index(index) for index in indexes_in(picture, first)])
    return last_of_first < min([sequence.index(index) for index in indexes_in(picture, second)])
