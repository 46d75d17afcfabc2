"""Books: what decides where a picture leaves a choice in which order it is written."""

from itertools import combinations

from brushedsigns.errors import BadBook, BadKinds, TooMany
from brushedsigns.hands import is_hand
from brushedsigns.orders import order_of
from brushedsigns.pictures import picture_of
from brushedsigns.signs import CUT_WORDS
from brushedsigns.stocked import check_put_picture_of
from brushedsigns.stocks import check_stock, entries_by_name
from brushedsigns.values import are_names, is_name, is_tuple
from brushedsigns.writing import kinds_in, write_by

MOST_RULES = 30
MOST_CLEANED = 10
HALF = (1, 2)
# The corners of a rule in the sequence in which the four cells of a picture stand.
CELL_CORNERS = (0, 2, 1, 3)
# Where the corners come from if left and right, above and below, or across and down are exchanged.
MIRRORED_CORNERS = (1, 0, 3, 2)
TURNED_OVER_CORNERS = (2, 3, 0, 1)
SIDE_CORNERS = (0, 2, 1, 3)
OTHER_SIDE = {"left": "right", "right": "left", "upper": "lower", "lower": "upper"}
SIDE_WORDS = {"left": "upper", "right": "lower", "upper": "left", "lower": "right", "across": "down", "down": "across"}


def word_at(stock, book, kinds):
    """What the book says at a cross with these kinds in its corners."""
    check_stock(stock)
    check_book(book)
    if not are_names(kinds) or len(kinds) != 4:
        raise BadKinds("these are no four kinds")
    return word_said(book, kinds)


def written(stock, book, picture):
    """The order in which the book writes the picture."""
    return order_of(written_putting(stock, book, picture), book[0])


def written_putting(stock, book, picture):
    """The sign by whose cuts the book writes the picture."""
    check_written(stock, book, picture)
    sign, _ = _write(stock, book, picture)
    return sign


def asked_of(stock, book, picture):
    """The crosses at which the book is asked: (path, box, kinds, word), as they are written."""
    check_written(stock, book, picture)
    _, asked = _write(stock, book, picture)
    entries = entries_by_name(stock)
    return [(path, box, kinds_in(entries, level, box), word) for level, path, box, word in asked]


def books_apart(stock, book, other):
    """None if the two books write all pictures of the stock alike, else the first picture that they do not."""
    check_stock(stock)
    check_book(book)
    check_book(other)
    least = _leaves(stock)[0][0]
    if book[0][0] != other[0][0]:
        return picture_of(("across", HALF, least, least))
    if book[0][1] != other[0][1]:
        return picture_of(("down", HALF, least, least))
    many = len(book[1])
    for leaves, fitting in _fittings(stock, book[1] + other[1]):
        ahead = [index for index in fitting if index < many]
        behind = [index - many for index in fitting if index >= many]
        if _first_word(book, ahead) != _first_word(other, behind):
            return picture_of(_cross_of(leaves))
    return None


def cleaned(stock, book):
    """The book of the fewest of this one's rules that writes all pictures of the stock as this one does."""
    check_stock(stock)
    check_book(book)
    hand, rules, word = book
    if len(rules) > MOST_CLEANED:
        raise TooMany("the book has too many rules to clean it")
    fittings = sorted(set([tuple(fitting) for _, fitting in _fittings(stock, rules)]))
    for many in range(len(rules)):
        for kept in combinations(range(len(rules)), many):
            if _say_the_same(book, fittings, kept):
                return (hand, tuple([rules[index] for index in kept]), word)
    return book


def mirrored_book(book):
    """The book that writes mirrored pictures as this one writes pictures."""
    check_book(book)
    (across, down), rules, word = book
    return ((OTHER_SIDE[across], down), _with_corners(rules, MIRRORED_CORNERS), word)


def turned_over_book(book):
    """The book that writes pictures that are turned over as this one writes pictures."""
    check_book(book)
    (across, down), rules, word = book
    return ((across, OTHER_SIDE[down]), _with_corners(rules, TURNED_OVER_CORNERS), word)


def side_book(book):
    """The book that writes pictures with across and down exchanged as this one writes pictures."""
    check_book(book)
    (across, down), rules, word = book
    turned = tuple([rule[:4] + (SIDE_WORDS[rule[4]],) for rule in _with_corners(rules, SIDE_CORNERS)])
    return ((SIDE_WORDS[down], SIDE_WORDS[across]), turned, SIDE_WORDS[word])


# What the other modules ask of books.


def check_book(thing):
    """Raises BadBook for any object that is no book."""
    if not is_tuple(thing, 3, 3) or not is_hand(thing[0]) or not is_cut_word(thing[2]):
        raise BadBook("this is no book")
    if not is_tuple(thing[1], 0, MOST_RULES) or not all([_is_rule(rule) for rule in thing[1]]):
        raise BadBook("the rules of the book are none")


def check_written(stock, book, picture):
    """Raises BadStock, BadBook, BadPicture or NoPutting if these are no stock, no book and no picture to write."""
    check_stock(stock)
    check_book(book)
    check_put_picture_of(stock, picture)


def is_cut_word(thing):
    """Whether the thing is "across" or "down"."""
    return isinstance(thing, str) and thing in CUT_WORDS


def are_rule_kinds(thing):
    """Whether the thing is a tuple of four, each a kind or None."""
    return is_tuple(thing, 4, 4) and all([kind is None or is_name(kind) for kind in thing])


def word_said(book, kinds):
    """What a book says at four kinds that are known to be some."""
    _, rules, word = book
    for rule in rules:
        if all([wanted is None or wanted == kind for wanted, kind in zip(rule, kinds)]):
            return rule[4]
    return word


def order_by(stock, book, picture):
    """The order in which the book writes what is known to be a picture of the stock with a putting."""
    sign, _ = _write(stock, book, picture)
    return order_of(sign, book[0])


def _write(stock, book, picture):
    """The sign by whose cuts the book writes the picture, and the crosses: (level, path, box, word)."""
    entries = entries_by_name(stock)
    return write_by(picture, book[0], lambda level, path, box: word_said(book, kinds_in(entries, level, box)))


def _is_rule(thing):
    return is_tuple(thing, 5, 5) and are_rule_kinds(thing[:4]) and is_cut_word(thing[4])


def _with_corners(rules, corners):
    """The rules, each with its kinds taken from these corners."""
    return tuple([tuple([rule[corner] for corner in corners]) + rule[4:] for rule in rules])


def _leaves(stock):
    """What a cell of a picture may have, with its kind: (sign, kind), ascending, only one part within a frame."""
    parts, frames = stock
    alone = ("part", parts[0][0])
    leaves = [(("part", part[0]), part[1]) for part in parts]
    return sorted(leaves + [(("within", frame[0], alone), frame[1]) for frame in frames])


def _cross_of(leaves):
    """The sign of four equal cells with these in them, in the picture's sequence."""
    upper_left, lower_left, upper_right, lower_right = leaves
    return ("across", HALF, ("down", HALF, upper_left, lower_left), ("down", HALF, upper_right, lower_right))


def _fittings(stock, rules):
    """Which rules fit where: (leaves, indexes), ascending by the leaves of four cells in the picture's sequence.

    Of leaves that no rule tells apart, the least stands for all.
    """
    leaves = _leaves(stock)
    found = [((), list(range(len(rules))))]
    for corner in CELL_CORNERS:
        found = [
            (chosen + (leaf,), left) for chosen, fitting in found
            for leaf, left in _fitting_at(corner, leaves, rules, fitting)]
    return found


def _fitting_at(corner, leaves, rules, fitting):
    """The least leaf for each kind that one of the fitting rules wants in the corner, and for all others together.

    With it stand the rules that still fit.
    """
    wanted = [rules[index][corner] for index in fitting]
    found = {}
    for leaf, kind in leaves:
        group = kind if kind in wanted else None
        if group not in found:
            found[group] = (leaf, [index for index in fitting if rules[index][corner] in (None, kind)])
    return list(found.values())


def _first_word(book, fitting):
    """What the book says where its rules of these indexes fit."""
    return book[1][fitting[0]][4] if fitting else book[2]


def _say_the_same(book, fittings, kept):
    """Whether the book says with the kept rules alone what it says with all, whichever fit."""
    for fitting in fittings:
        if _first_word(book, fitting) != _first_word(book, [index for index in fitting if index in kept]):
            return False
    return True
