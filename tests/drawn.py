"""Pictures that several tests use."""

from fractions import Fraction

from tests.oracles import WHOLE, by_number, told
from tests.things import A, B, C, D

NAMES = "abcdefghijkl"
LEFT_UPPER = ("left", "upper")


def side(text):
    return told(Fraction(text))


def box(text):
    """The box told by four numbers with blanks between: "0 1/2 0 1"."""
    return tuple(side(word) for word in text.split(" "))


def cell(text, content=A):
    return box(text) + (content,)


def drawn(*cells):
    """The picture of these cells, put into their sequence."""
    return tuple(sorted(cells, key=by_number))


def columns(*cuts, parts=6):
    """Columns equally wide, each cut down at so many of the parts of its height; the parts named in their sequence."""
    cells = []
    for index, places in enumerate(cuts):
        ends = [0] + list(places) + [parts]
        for upper, lower in zip(ends, ends[1:]):
            name = NAMES[len(cells)]
            cells.append(cell(f"{index}/{len(cuts)} {index + 1}/{len(cuts)} {upper}/{parts} {lower}/{parts}",
                              ("part", name)))
    return drawn(*cells)


def grid(rows, many):
    """The parts in rows, so many columns, named column by column."""
    return columns(*[range(1, rows)] * many, parts=rows)


def framed_picture(picture, name="f"):
    """The picture within a frame that fills the box."""
    return (WHOLE + (("within", name, picture),),)


def with_content(picture, index, content):
    """The picture with another content in one cell."""
    return picture[:index] + (picture[index][:4] + (content,),) + picture[index + 1:]


ONE = (WHOLE + (A,),)
PICTURE_OF_X = (
    ((0, 1), (1, 2), (0, 1), (1, 2), A), ((0, 1), (1, 2), (1, 2), (1, 1), B),
    ((1, 2), (1, 1), (0, 1), (1, 2), C), ((1, 2), (1, 1), (1, 2), (1, 1), D))
# Five cells around a wheel: no sign has this picture.
WHEEL = drawn(cell("0 2/3 0 1/3", A), cell("2/3 1 0 2/3", B), cell("1/3 1 2/3 1", C), cell("0 1/3 1/3 1", D),
              cell("1/3 2/3 1/3 2/3", ("part", "e")))
# A row of three with a frame in the middle, in which X stands.
FRAMED = drawn(cell("0 1/3 0 1", A), cell("1/3 2/3 0 1", ("within", "f", PICTURE_OF_X)), cell("2/3 1 0 1", B))
# A cross with the wheel in the frame in its second cell.
BARRED = with_content(PICTURE_OF_X, 1, ("within", "f", WHEEL))
