"""Pens: where strokes lie by the whole box, and how far the pen goes in writing and in between."""

from brushedsigns.books import check_written, order_by
from brushedsigns.boxes import WHOLE, drawn_into
from brushedsigns.errors import BadStroke
from brushedsigns.hands import check_hand
from brushedsigns.orders import orders_of
from brushedsigns.pictures import all_paths, cell_at, inner_of
from brushedsigns.stocked import check_picture_of, check_put_picture_of
from brushedsigns.stocks import check_stock, entries_by_name
from brushedsigns.strokes import strokes_in_order
from brushedsigns.values import added, apart, between, is_integer, is_less

NOTHING = (0, 1)


def points_of(stock, picture, path, index):
    """The points of a stroke by the whole box."""
    check_stock(stock)
    check_picture_of(stock, picture)
    name = cell_at(picture, path)[4][1]
    strokes = entries_by_name(stock)[name][2]
    if not is_integer(index) or not 0 <= index < len(strokes):
        raise BadStroke("there is no such stroke at this path")
    return _drawn_points(stock, picture, path, strokes[index])


def pen_way(stock, picture):
    """How far the pen goes in writing all strokes of the picture."""
    check_stock(stock)
    check_picture_of(stock, picture)
    strokes = _drawn_in_order(stock, picture, all_paths(picture))
    return _sum_of([_distance(one, other) for points in strokes for one, other in zip(points, points[1:])])


def lifts_of(stock, book, picture):
    """How far the pen goes from each stroke to the next, as the book writes them."""
    check_written(stock, book, picture)
    return _lifts(_drawn_in_order(stock, picture, order_by(stock, book, picture)))


def lift_sum(stock, book, picture):
    """How far the pen goes between the strokes, as the book writes them."""
    return _sum_of(lifts_of(stock, book, picture))


def least_lifts(stock, picture, hand):
    """The least sum of lifts of all orders of the picture, and the first order that has it."""
    check_stock(stock)
    check_put_picture_of(stock, picture)
    check_hand(hand)
    least = None
    for order in orders_of(picture, hand):
        total = _sum_of(_lifts(_drawn_in_order(stock, picture, order)))
        if least is None or is_less(total, least[0]):
            least = (total, order)
    return least


def _drawn_in_order(stock, picture, order):
    """The points of all strokes by the whole box, written in an order that keeps the frames."""
    strokes = strokes_in_order(stock, picture, order)
    return [_drawn_points(stock, picture, path, stroke) for path, _, stroke in strokes]


def _drawn_points(stock, picture, path, stroke):
    left, right, upper, lower = _region_of(stock, picture, path)
    return tuple([(between(left, right, across), between(upper, lower, down)) for across, down in stroke[1]])


def _region_of(stock, picture, path):
    """The box of the cell at the path, by the whole box."""
    entries = entries_by_name(stock)
    around, level = WHOLE, picture
    for index in path[:-1]:
        cell = level[index]
        hole = entries[cell[4][1]][3]
        around = drawn_into(hole, drawn_into(cell, around))
        level = inner_of(cell)
    return drawn_into(level[path[-1]], around)


def _lifts(strokes):
    """The distances from the last point of each stroke to the first of the next."""
    return [_distance(one[-1], other[0]) for one, other in zip(strokes, strokes[1:])]


def _distance(one, other):
    """How far the two points are apart sideways and up or down, added."""
    return added(apart(one[0], other[0]), apart(one[1], other[1]))


def _sum_of(fractions):
    total = NOTHING
    for fraction in fractions:
        total = added(total, fraction)
    return total
