"""Stocks and signs that several tests use, and objects that are none of them."""

HALF = (1, 2)
LINE = ("line", (((0, 1), (1, 2)), ((1, 1), (1, 2))))
DOT = ("dot", (((1, 2), (1, 2)), ((1, 2), (1, 1))))
HOLE = ((1, 4), (3, 4), (1, 4), (3, 4))
PART = ("a", "ka", (LINE,))
OTHER = ("b", "kb", (DOT, LINE))
FRAME = ("f", "kf", (LINE, DOT, LINE), HOLE, 1)
STOCK = ((PART, OTHER), (FRAME,))

A = ("part", "a")
B = ("part", "b")
C = ("part", "c")
D = ("part", "d")
X = ("across", HALF, ("down", HALF, A, B), ("down", HALF, C, D))


class EqualToAll:
    """An object that claims to be equal to everything."""

    def __eq__(self, other):
        return True

    def __hash__(self):
        return 1


class Stubborn:
    """An object that is not to be compared or measured, and has no hash."""

    __hash__ = None

    def __eq__(self, other):
        raise AssertionError("compared")

    def __len__(self):
        raise AssertionError("measured")


def objects():
    """Objects that are no stock, no sign, no text of a sign and no name of STOCK."""
    return [
        None, True, False, 0, 1, -1, 10 ** 20, "", " ", "x", "part", "partx", b"", b"a", b"part a", object(), len,
        ValueError, ValueError("part"), [], {}, set(), frozenset(), range(2), (), ((),), ([],), (None,), (True, False),
        ("part",), [["part", "a"]], {"part": "a"}, (1, 2), ("a", "b"), ("f", "g", "h"), EqualToAll(), Stubborn(),
        (EqualToAll(), EqualToAll()), (Stubborn(), Stubborn()), (EqualToAll(),) * 3, (EqualToAll(),) * 4,
        (EqualToAll(),) * 5, (None,) * 2, (None,) * 3, (None,) * 4, (None,) * 5, nested((), 55), nested([], 55),
    ]


def nested(thing, times):
    """The thing within tuples or lists, as it is itself one."""
    made = thing
    for _ in range(times):
        made = (made,) if isinstance(thing, tuple) else [made]
    return made


def with_lists(thing):
    """All that come of the thing if one tuple in it, at whatever depth, is made a list."""
    if not isinstance(thing, tuple):
        return []
    found = [list(thing)]
    for index, entry in enumerate(thing):
        for changed in with_lists(entry):
            found.append(thing[:index] + (changed,) + thing[index + 1:])
    return found


def with_each(thing, make):
    """All that come of the thing if one entry in it that is no tuple is exchanged for what make gives for it."""
    if not isinstance(thing, tuple):
        return [other for other in make(thing)]
    found = []
    for index, entry in enumerate(thing):
        for changed in with_each(entry, make):
            found.append(thing[:index] + (changed,) + thing[index + 1:])
    return found


def part(name, kind="k", strokes=(LINE,)):
    return (name, kind, strokes)


def frame(name, kind="k", strokes=(LINE,), hole=HOLE, last=0):
    return (name, kind, strokes, hole, last)


def row(count, word="across"):
    """A sign of so many parts in a row, as many signs of it within one another."""
    sign = A
    for _ in range(count - 1):
        sign = (word, HALF, A, sign)
    return sign


def framed(count, sign=A):
    """The sign within so many frames."""
    for _ in range(count):
        sign = ("within", "f", sign)
    return sign


def balanced(count):
    """A sign of so many parts with as few signs within one another as can be."""
    if count == 1:
        return A
    return ("across", HALF, balanced(count // 2), balanced(count - count // 2))
