"""The desk: a session that rows of words ask and change."""

from brushedsigns.cuts import count_puttings, first_putting
from brushedsigns.errors import BadCommand, BadSign
from brushedsigns.orders import count_orders, crosses_of
from brushedsigns.pictures import content_at, picture_of
from brushedsigns.session import Session
from brushedsigns.signs import read_sign, write_sign
from brushedsigns.stocked import is_picture_of
from brushedsigns.strokes import count_strokes
from brushedsigns.values import is_number

MOST_DIGITS_OF_INDEX = 2
MOST_DIGITS_OF_CUT = 30

STOCK = (
    (
        ("a", "a", (("line", (((0, 1), (1, 2)), ((1, 1), (1, 2)))),)),
        ("b", "b", (("dot", (((1, 2), (1, 2)), ((1, 2), (1, 1)))),)),
        ("c", "c", (("line", (((0, 1), (1, 2)), ((1, 1), (1, 2)))),)),
        ("d", "d", (("dot", (((1, 2), (1, 2)), ((1, 2), (1, 1)))),)),
    ),
    (
        (
            "f", "f",
            (("down", (((0, 1), (0, 1)), ((0, 1), (1, 1)))), ("close", (((0, 1), (1, 1)), ((1, 1), (1, 1))))),
            ((1, 4), (3, 4), (1, 4), (3, 4)), 1,
        ),
    ),
)
BOOK = (("left", "upper"), (), "across")
SIGN = (
    "across", (1, 2),
    ("down", (1, 2), ("part", "a"), ("part", "b")),
    ("down", (1, 2), ("part", "c"), ("part", "d")),
)


def _sign(session):
    return write_sign(first_putting(session.picture()))


def _order(session):
    return " ".join([content_at(session.picture(), path)[1] for path in session.order()])


def _row(session):
    return " ".join(session.row())


def _puttings(session):
    return str(count_puttings(session.picture()))


def _orders(session):
    return str(session.choices())


def _strokes(session):
    return str(count_strokes(STOCK, session.picture()))


def _crosses(session):
    return str(len(crosses_of(session.picture())))


def _put(session, words):
    session.put(_path(words[0]), words[1])


def _cut(session, words):
    session.cut(_path(words[0]), words[1], _cut_told(words[2]), words[3])


def _frame(session, words):
    session.frame(_path(words[0]), words[1])


def _turn(session, words):
    session.turn(words[0])


def _undo(session, words):
    session.undo()


# What a row of one word asks, and what a row does, with how many words behind its first one.
QUESTIONS = {
    "sign": _sign, "order": _order, "row": _row, "puttings": _puttings, "orders": _orders, "strokes": _strokes,
    "crosses": _crosses}
DEEDS = {"put": _put, "cut": _cut, "frame": _frame, "turn": _turn, "undo": _undo}
DEED_WORDS = {"put": 2, "cut": 4, "frame": 2, "turn": 1, "undo": 0}


class Desk:
    """A session that begins with the picture of four parts at a cross."""

    def __init__(self):
        self._session = Session(STOCK, BOOK, picture_of(SIGN))

    def say(self, row):
        """The answer to the row."""
        words = row.split(" ") if isinstance(row, str) else [""]
        if "" not in words:
            word, behind = words[0], words[1:]
            if word in QUESTIONS and not behind:
                question = QUESTIONS[word]
                return question(self._session)
            if word in DEEDS and len(behind) == DEED_WORDS[word]:
                deed = DEEDS[word]
                deed(self._session, behind)
                return "ok"
            if word == "read" and behind:
                return _read(behind)
        raise BadCommand("the desk does not know this row")

    def session(self):
        """A copy of the session."""
        return self._session.copy()


def _read(words):
    """How many orders the picture of the sign has that the words tell."""
    picture = picture_of(read_sign(" ".join(words)))
    if not is_picture_of(STOCK, picture):
        raise BadSign("this is no sign of the stock")
    return str(count_orders(picture))


def _path(word):
    """The path that a word tells."""
    numbers = word.split(".")
    if not all([is_number(number, MOST_DIGITS_OF_INDEX) for number in numbers]):
        raise BadCommand("this word tells no path")
    return tuple([int(number) for number in numbers])


def _cut_told(word):
    """The two numbers that a word tells of a cut, be it one or not."""
    top, _, bottom = word.partition("/")
    if not is_number(top, MOST_DIGITS_OF_CUT) or not is_number(bottom, MOST_DIGITS_OF_CUT):
        raise BadCommand("this word tells no cut")
    return (int(top), int(bottom))
