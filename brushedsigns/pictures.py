"""Pictures: which cells stand where, in whatever way they are put together."""

from brushedsigns.boxes import WHOLE, box_key, is_box, overlap, parted
from brushedsigns.errors import BadPath, BadPicture, BadWord
from brushedsigns.hands import as_written
from brushedsigns.signs import CUT_WORDS, check_sign
from brushedsigns.values import MOST_PARTS, are_integers, ascending, is_name, is_tuple, rest_of

SOME_HAND = ("left", "upper")


def is_picture(thing):
    """Whether the thing is a picture, its bounds kept."""
    return _filling(thing, MOST_PARTS) > 0


def picture_of(sign):
    """The picture of the sign."""
    check_sign(sign)
    return _picture(sign)


def paths_of(picture):
    """The paths of all parts and frames of the picture, ascending."""
    check_picture(picture)
    return tuple(all_paths(picture))


def content_at(picture, path):
    """The part or frame at the path."""
    check_picture(picture)
    content = cell_at(picture, path)[4]
    return content if content[0] == "part" else ("frame", content[1])


def box_at(picture, path):
    """The box of the path's cell, as it stands in its own picture."""
    check_picture(picture)
    return cell_at(picture, path)[:4]


def level_at(picture, path):
    """The picture within the frame at the path, the picture itself for ()."""
    check_picture(picture)
    if isinstance(path, tuple) and len(path) == 0:
        return picture
    cell = cell_at(picture, path)
    if not is_framed(cell):
        raise BadPath("there is a part at this path, and no picture within")
    return inner_of(cell)


def mirrored(picture):
    """The picture with left and right exchanged, also within frames."""
    check_picture(picture)
    return _turned(picture, _mirrored_box)


def turned_over(picture):
    """The picture with above and below exchanged, also within frames."""
    check_picture(picture)
    return _turned(picture, _turned_over_box)


def turned_side(picture):
    """The picture with across and down exchanged, also within frames."""
    check_picture(picture)
    return _turned(picture, _turned_side_box)


def moved_path(picture, word, path):
    """The path of the same cell in the picture that the function of that name makes of this one."""
    check_picture(picture)
    _check_turn(word)
    cell_at(picture, path)
    turn = TURNS[word]
    return _turned_path(picture, turn, path)


# What the other modules ask of pictures that are known to be some.


def check_picture(thing):
    """Raises BadPicture for any object that is no picture."""
    if not is_picture(thing):
        raise BadPicture("this is no picture")


def cell_at(picture, path):
    """The cell at any object that is a path; BadPath for all else."""
    if not are_integers(path) or len(path) == 0:
        raise BadPath("this is no path")
    level = picture
    for index in path[:-1]:
        if not 0 <= index < len(level) or not is_framed(level[index]):
            raise BadPath("the picture has no such path")
        level = inner_of(level[index])
    if not 0 <= path[-1] < len(level):
        raise BadPath("the picture has no such path")
    return level[path[-1]]


def turned_by(picture, word):
    """The picture as the function of that name returns it, BadWord for any object that is no such name."""
    _check_turn(word)
    turn = TURNS[word]
    return _turned(picture, turn)


def in_sequence(cells):
    """The cells as a tuple, ascending as those of a picture; perhaps they are none."""
    return tuple(sorted(cells, key=box_key))


def with_cells_at(picture, path, cells):
    """The picture with the cells in the place of the one at the path; perhaps it is no picture then."""
    index = path[0]
    placed = list(cells)
    if len(path) > 1:
        cell = picture[index]
        content = with_inner(cell[4], lambda inner: with_cells_at(inner, path[1:], cells))
        placed = [cell[:4] + (content,)]
    return in_sequence(list(picture[:index] + picture[index + 1:]) + placed)


def is_framed(cell):
    """Whether a frame stands in the cell."""
    return cell[4][0] == "within"


def inner_of(cell):
    """The picture within the frame in the cell."""
    return cell[4][2]


def with_inner(content, change):
    """The content with the picture within it changed; that of a part as it is."""
    if content[0] == "part":
        return content
    return ("within", content[1], change(content[2]))


def below(path, paths):
    """The paths in the picture within the frame at a path, told by the picture around it."""
    return [path + inner for inner in paths]


def all_paths(picture):
    """The ascending list of the paths of all parts and frames."""
    found = []
    for index, cell in enumerate(picture):
        found.append((index,))
        if is_framed(cell):
            found.extend(below((index,), all_paths(inner_of(cell))))
    return found


def levels_of(picture):
    """The picture and those within its frames: (path, picture), ascending, the path () for the picture itself."""
    found = [((), picture)]
    for index, cell in enumerate(picture):
        if is_framed(cell):
            found.extend([((index,) + path, level) for path, level in levels_of(inner_of(cell))])
    return found


def leaves_of(sign, box, hand):
    """The parts and frames of a sign in a box: (box, part or within), as the hand writes them.

    Those within frames are not among them.
    """
    if sign[0] not in CUT_WORDS:
        return [(box, sign)]
    word, cut, one, other = sign
    box_of_one, box_of_other = parted(box, word, cut)
    first, second = as_written(
        hand, word, leaves_of(one, box_of_one, hand), leaves_of(other, box_of_other, hand))
    return first + second


def ranks_among(places):
    """What rank each of the fractions has among them, 0 for the least."""
    return {place: rank for rank, place in enumerate(ascending(places))}


def ranked_sides(picture):
    """The ranks of the numbers that stand as left or right of the cells, and of those that stand as upper or lower."""
    across = ranks_among([place for cell in picture for place in cell[:2]])
    down = ranks_among([place for cell in picture for place in cell[2:4]])
    return across, down


def _filling(thing, room):
    """How many parts and frames stand in the picture, 0 if it is none or there is no room for them."""
    # Pictures within one another are never more than the parts and frames in
    # the outermost one, so the room is a bound for them, too.
    if not is_tuple(thing, 1, room) or not all([_begins_as_cell(cell) for cell in thing]):
        return 0
    if not _is_whole(thing):
        return 0
    many = len(thing)
    for cell in thing:
        if is_framed(cell):
            inner = _filling(inner_of(cell), room - many)
            if inner == 0:
                return 0
            many += inner
    return many


def _begins_as_cell(thing):
    """Whether the thing is a cell, if what stands where a picture within would stand is one."""
    if not is_tuple(thing, 5, 5) or not is_box(thing[:4]):
        return False
    content = thing[4]
    if not is_tuple(content, 2, 3) or not isinstance(content[0], str) or not is_name(content[1]):
        return False
    return content[0] == ("part" if len(content) == 2 else "within")


def _is_whole(cells):
    """Whether the cells ascend and fill the whole box, no two overlapping."""
    keys = [box_key(cell) for cell in cells]
    if keys != sorted(keys):
        return False
    for index, cell in enumerate(cells):
        if any([overlap(cell, other) for other in cells[:index]]):
            return False
    across, down = ranked_sides(cells)
    if not all([end in across and end in down for end in ((0, 1), (1, 1))]):
        return False
    # Cells that do not overlap leave no hole if their areas, as the ranks tell them, are that of the whole.
    area = sum([(across[cell[1]] - across[cell[0]]) * (down[cell[3]] - down[cell[2]]) for cell in cells])
    return area == across[(1, 1)] * down[(1, 1)]


def _picture(sign):
    return in_sequence([box + (with_inner(leaf, _picture),) for box, leaf in leaves_of(sign, WHOLE, SOME_HAND)])


def _check_turn(word):
    """Raises BadWord for any object by which no picture is turned."""
    if not isinstance(word, str) or word not in TURNS:
        raise BadWord("a picture is not turned by this word")


def _mirrored_box(box):
    left, right, upper, lower = box
    return (rest_of(right), rest_of(left), upper, lower)


def _turned_over_box(box):
    left, right, upper, lower = box
    return (left, right, rest_of(lower), rest_of(upper))


def _turned_side_box(box):
    left, right, upper, lower = box
    return (upper, lower, left, right)


TURNS = {"mirrored": _mirrored_box, "turned_over": _turned_over_box, "turned_side": _turned_side_box}


def _turned(picture, turn):
    """The picture with each cell in the box that the turn makes of its own, also within frames."""
    return in_sequence([_turned_cell(cell, turn) for cell in picture])


def _turned_cell(cell, turn):
    content = with_inner(cell[4], lambda inner: _turned(inner, turn))
    return turn(cell[:4]) + (content,)


def _turned_path(picture, turn, path):
    boxes = sorted([turn(cell[:4]) for cell in picture], key=box_key)
    cell = picture[path[0]]
    ahead = (boxes.index(turn(cell[:4])),)
    if len(path) == 1:
        return ahead
    return ahead + _turned_path(inner_of(cell), turn, path[1:])
