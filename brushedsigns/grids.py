"""Grids: pictures of equal boxes in rows, their puttings and their orders."""

from brushedsigns.errors import BadCount, BadGrid
from brushedsigns.hands import check_hand
from brushedsigns.orders import orders_of
from brushedsigns.pictures import in_sequence
from brushedsigns.values import are_names, in_least_terms, is_integer, is_tuple

MOST_ROWS = 3
MOST_COLUMNS = 4
MOST_COUNTED = 40


def grid_picture(grid):
    """The picture with the grid's names in equal boxes."""
    _check_grid(grid)
    return _picture(grid)


def grid_puttings(rows, columns):
    """How many puttings a grid of so many rows and columns has."""
    _check_counts(rows, columns)
    counts = {(1, 1): 1}
    for high, wide in _sizes(rows, columns):
        across = sum([counts[(high, at)] * counts[(high, wide - at)] for at in range(1, wide)])
        down = sum([counts[(at, wide)] * counts[(high - at, wide)] for at in range(1, high)])
        counts[(high, wide)] = across + down
    return counts[(rows, columns)]


def grid_orders(rows, columns):
    """How many orders a grid of so many rows and columns has."""
    _check_counts(rows, columns)
    # They are as many as the puttings in which no second sign of an across is
    # an across, and none of a down a down.
    counts = {(1, 1): 1}
    not_across = {(1, 1): 1}
    not_down = {(1, 1): 1}
    for high, wide in _sizes(rows, columns):
        across = sum([counts[(high, at)] * not_across[(high, wide - at)] for at in range(1, wide)])
        down = sum([counts[(at, wide)] * not_down[(high - at, wide)] for at in range(1, high)])
        counts[(high, wide)] = across + down
        not_across[(high, wide)] = down
        not_down[(high, wide)] = across
    return counts[(rows, columns)]


def grid_ways(grid, hand):
    """The unlike tuples of names that the orders of the grid write, ascending."""
    _check_grid(grid)
    check_hand(hand)
    picture = _picture(grid)
    return sorted(set([
        tuple([picture[path[0]][4][1] for path in order]) for order in orders_of(picture, hand)]))


def _check_grid(thing):
    """Raises BadGrid for any object that is no grid."""
    if not is_tuple(thing, 1, MOST_ROWS) or not all([are_names(row) for row in thing]):
        raise BadGrid("this is no grid")
    if not 1 <= len(thing[0]) <= MOST_COLUMNS or not all([len(row) == len(thing[0]) for row in thing]):
        raise BadGrid("the rows of a grid have as many names, one to four")


def _check_counts(rows, columns):
    """Raises BadCount unless both are numbers from 1 to 40."""
    for thing in (rows, columns):
        if not is_integer(thing) or not 1 <= thing <= MOST_COUNTED:
            raise BadCount("this is no number of rows or columns")


def _picture(grid):
    high, wide = len(grid), len(grid[0])
    cells = []
    for upper, row in enumerate(grid):
        for left, name in enumerate(row):
            across = (in_least_terms(left, wide), in_least_terms(left + 1, wide))
            down = (in_least_terms(upper, high), in_least_terms(upper + 1, high))
            cells.append(across + down + (("part", name),))
    return in_sequence(cells)


def _sizes(rows, columns):
    """All sizes but that of one cell, the lesser ahead."""
    return [(high, wide) for high in range(1, rows + 1) for wide in range(1, columns + 1) if high + wide > 2]
