"""Sessions: a picture and a book that deeds change, and that can be taken back."""

from brushedsigns.books import MOST_RULES, are_rule_kinds, check_written, is_cut_word, order_by
from brushedsigns.boxes import WHOLE, parted
from brushedsigns.errors import BadCut, BadKinds, BadName, BadPath, BadWord, Full, NothingToUndo, TooMany
from brushedsigns.orders import count_orders
from brushedsigns.pictures import cell_at, is_framed, is_picture, turned_by, with_cells_at
from brushedsigns.strokes import sorts_row
from brushedsigns.values import is_cut, is_name

MOST_DEEDS = 50


class Session:
    """A stock, and a book and a picture of it, with the deeds in force."""

    def __init__(self, stock, book, picture):
        check_written(stock, book, picture)
        self._stock = stock
        self._book = book
        self._picture = picture
        # What book and picture were ahead of each deed in force.
        self._past = []

    def put(self, path, name):
        """Gives the cell at the path another part."""
        cell = self._part_at(path)
        self._check_part(name)
        self._draw(path, [cell[:4] + (("part", name),)])

    def cut(self, path, word, cut, name):
        """Parts the cell at the path, and gives the right or lower piece a part."""
        cell = self._part_at(path)
        if not is_cut_word(word):
            raise BadWord("a cell is not parted by this word")
        if not is_cut(cut):
            raise BadCut("this is no cut")
        self._check_part(name)
        one, other = parted(cell[:4], word, cut)
        self._draw(path, [one + cell[4:], other + (("part", name),)])

    def frame(self, path, name):
        """Puts a frame around the part at the path."""
        cell = self._part_at(path)
        if not _is_name_of(self._stock[1], name):
            raise BadName("the stock has no frame of this name")
        self._draw(path, [cell[:4] + (("within", name, (WHOLE + cell[4:],)),)])

    def turn(self, word):
        """Turns the picture."""
        self._do(self._book, turned_by(self._picture, word))

    def rule(self, kinds, word):
        """Puts a rule ahead of the book's others."""
        if not are_rule_kinds(kinds):
            raise BadKinds("these are no four kinds of a rule")
        if not is_cut_word(word):
            raise BadWord("a rule does not say this word")
        hand, rules, other_word = self._book
        if len(rules) == MOST_RULES:
            raise TooMany("the book has as many rules as it can have")
        self._do((hand, (kinds + (word,),) + rules, other_word), self._picture)

    def undo(self):
        """Takes back the last deed in force."""
        if not self._past:
            raise NothingToUndo("there is nothing to take back")
        self._book, self._picture = self._past.pop()

    def picture(self):
        """The picture."""
        return self._picture

    def book(self):
        """The book."""
        return self._book

    def order(self):
        """The order in which the book writes the picture."""
        return order_by(self._stock, self._book, self._picture)

    def row(self):
        """The sorts of the strokes as the book writes them."""
        return sorts_row(self._stock, self._book, self._picture)

    def choices(self):
        """How many orders the picture has."""
        return count_orders(self._picture)

    def __eq__(self, other):
        if not isinstance(other, Session):
            return False
        if self._stock != other._stock or self._book != other._book:
            return False
        return self._picture == other._picture

    def copy(self):
        """An equal session that goes its own way and can take back the same deeds."""
        twin = Session(self._stock, self._book, self._picture)
        twin._past = list(self._past)
        return twin

    def _part_at(self, path):
        """The cell of the part at the path."""
        cell = cell_at(self._picture, path)
        if is_framed(cell):
            raise BadPath("there is a frame at this path")
        return cell

    def _check_part(self, name):
        if not _is_name_of(self._stock[0], name):
            raise BadName("the stock has no part of this name")

    def _draw(self, path, cells):
        """Does what puts the cells in the place of the one at the path."""
        picture = with_cells_at(self._picture, path, cells)
        if not is_picture(picture):
            raise TooMany("there is more in this than can be in a picture")
        self._do(self._book, picture)

    def _do(self, book, picture):
        if len(self._past) == MOST_DEEDS:
            raise Full("as many deeds are in force as can be")
        self._past.append((self._book, self._picture))
        self._book = book
        self._picture = picture


def _is_name_of(entries, thing):
    """Whether any object is the name of one of a stock's parts or frames."""
    return is_name(thing) and thing in [entry[0] for entry in entries]
