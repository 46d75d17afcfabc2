"""What the document says of pictures within pictures, told once more in the slow way, by Python's own fractions.

Nothing here uses the program.
"""

from fractions import Fraction

from tests.oracles import all_boxes, by_number, levels, numbers, told_box


def drawn(sides, outer, inner):
    """Where the sides, told by the one box, stand if this is drawn to the other one."""
    left, right, upper, lower = outer
    start, end, top, bottom = inner
    across = [start + (side - left) / (right - left) * (end - start) for side in sides[:2]]
    down = [top + (side - upper) / (lower - upper) * (bottom - top) for side in sides[2:]]
    return tuple(across + down)


WHOLE = (Fraction(0), Fraction(1), Fraction(0), Fraction(1))


def redrawn(cells, outer, inner):
    return [told_box(drawn(numbers(cell), outer, inner)) + (cell[4],) for cell in cells]


def in_order(cells):
    return tuple(sorted(cells, key=by_number))


def taken(cells, box):
    return in_order(redrawn(cells, box, WHOLE))


def count(picture):
    return sum(1 if cell[4][0] == "part" else 1 + count(cell[4][2]) for cell in picture)


def bottoms(picture):
    found = [side[1] for cell in picture for side in cell[:4]]
    return found + [bottom for cell in picture if cell[4][0] == "within" for bottom in bottoms(cell[4][2])]


def keeps_bounds(picture):
    """Whether what fills the box without a hole is a picture."""
    return count(picture) <= 12 and max(bottoms(picture)) <= 10000


def found(picture, other):
    places = []
    for path, level in levels(picture):
        for box, cells in sorted(all_boxes(level).items()):
            if taken(cells, box) == other:
                places.append((path, box))
    return places


def filled(picture, box, other):
    outside = [cell for cell in picture if not within(numbers(cell), box)]
    return in_order(outside + redrawn(other, WHOLE, box))


def within(box, outer):
    return outer[0] <= box[0] and box[1] <= outer[1] and outer[2] <= box[2] and box[3] <= outer[3]


def overlap(one, other):
    return one[0] < other[1] and other[0] < one[1] and one[2] < other[3] and other[2] < one[3]


def exchange(picture, other, third):
    """The picture exchanged, perhaps beyond the bounds."""
    chosen = []
    for path, box in found(picture, other):
        if not any(at == path and overlap(box, ahead) for at, ahead in chosen):
            chosen.append((path, box))
    return exchange_at(picture, (), chosen, third)


def exchange_at(picture, path, chosen, third):
    cells = []
    for index, cell in enumerate(picture):
        content = cell[4]
        if content[0] == "within":
            content = content[:2] + (exchange_at(content[2], path + (index,), chosen, third),)
        cells.append(cell[:4] + (content,))
    for at, box in chosen:
        if at == path:
            cells = filled(cells, box, third)
    return in_order(cells)


def unlike(picture, other, path=()):
    """(path, box, picture) of the smallest box that parts two unlike pictures; the picture perhaps beyond the bounds."""
    theirs = all_boxes(other)
    fitting = []
    for box, cells in all_boxes(picture).items():
        if box in theirs:
            outside = [cell for cell in picture if cell not in cells]
            if outside == [cell for cell in other if cell not in theirs[box]]:
                fitting.append(box)
    area, least = min(((box[1] - box[0]) * (box[3] - box[2]), box) for box in fitting)
    assert all(within(least, box) for box in fitting)
    assert area > 0
    one, later = all_boxes(picture)[least], theirs[least]
    if len(one) == len(later) == 1 and one[0][4][0] == later[0][4][0] == "within" and one[0][4][1] == later[0][4][1]:
        return unlike(one[0][4][2], later[0][4][2], path + (picture.index(one[0]),))
    return (path, told_box(least), taken(later, least))


def names(picture):
    found_names = []
    for cell in picture:
        found_names += [cell[4][1]] if cell[4][0] == "part" else names(cell[4][2])
    return found_names


def bare(picture):
    return [cell[:4] + ((cell[4][1], bare(cell[4][2])) if cell[4][0] == "within" else ("",),) for cell in picture]
