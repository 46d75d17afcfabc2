"""Strokes: the rows of strokes that books write, and how they tell signs apart."""

from itertools import combinations

from brushedsigns.books import check_book, check_written, order_by
from brushedsigns.errors import BadSorts, TooMany
from brushedsigns.orders import sequence_at
from brushedsigns.pictures import all_paths, inner_of, is_framed
from brushedsigns.stocked import check_picture_of, check_signs
from brushedsigns.stocks import check_stock, entries_by_name
from brushedsigns.values import are_names

MOST_STROKES = 12


def strokes_of(stock, book, picture):
    """The strokes as the book writes them: (path, index)."""
    check_written(stock, book, picture)
    strokes = strokes_in_order(stock, picture, order_by(stock, book, picture))
    return tuple([(path, index) for path, index, _ in strokes])


def sorts_row(stock, book, picture):
    """The sorts of the strokes as the book writes them."""
    check_written(stock, book, picture)
    return _row(stock, book, picture)


def count_strokes(stock, picture):
    """How many strokes the picture has."""
    check_stock(stock)
    check_picture_of(stock, picture)
    return len(strokes_in_order(stock, picture, all_paths(picture)))


def found_by(stock, book, signs, sorts):
    """The words of the signs whose rows begin with the sorts."""
    _check_signs(stock, book, signs)
    _check_sorts(sorts)
    rows = _rows(stock, book, signs)
    return [word for (word, _), row in zip(signs, rows) if row[:len(sorts)] == sorts]


def telling(stock, book, signs):
    """For each sign the least number of first strokes by which it is told from all others, None if it never is."""
    _check_signs(stock, book, signs)
    rows = _rows(stock, book, signs)
    return [_told_by(row, rows[:at] + rows[at + 1:]) for at, row in enumerate(rows)]


def same_rows(stock, book, signs):
    """The words of the signs with the same row, two words or more each."""
    _check_signs(stock, book, signs)
    words_by_row = {}
    for (word, _), row in zip(signs, _rows(stock, book, signs)):
        words_by_row.setdefault(row, []).append(word)
    return [words for words in words_by_row.values() if len(words) > 1]


def next_sorts(stock, book, signs, sorts):
    """How many rows begin with the sorts and go on with which sort: (sort, number), ascending."""
    _check_signs(stock, book, signs)
    _check_sorts(sorts)
    many = len(sorts)
    counts = {}
    for row in _rows(stock, book, signs):
        if row[:many] == sorts and len(row) > many:
            counts[row[many]] = counts.get(row[many], 0) + 1
    return sorted(counts.items())


def telling_places(stock, book, signs):
    """The fewest indexes of strokes at which the rows tell all signs apart, None if they do not."""
    _check_signs(stock, book, signs)
    rows = _rows(stock, book, signs)
    longest = max([len(row) for row in rows])
    if longest > MOST_STROKES:
        raise TooMany("a row has too many strokes")
    filled = [row + (None,) * (longest - len(row)) for row in rows]
    for many in range(longest + 1):
        for places in combinations(range(longest), many):
            if len(set([tuple([row[place] for place in places]) for row in filled])) == len(rows):
                return places
    return None


def unlike_by(stock, book, other, signs):
    """The words of the signs whose rows are unlike by the two books."""
    check_stock(stock)
    check_book(book)
    check_book(other)
    check_signs(stock, signs)
    return [word for word, picture in signs if _row(stock, book, picture) != _row(stock, other, picture)]


# What the other modules ask of pictures that are known to be of the stock.


def strokes_in_order(stock, picture, order):
    """The strokes of the picture, written in an order that keeps its frames: (path, index, stroke)."""
    return _strokes_at(entries_by_name(stock), picture, (), order)


def _strokes_at(entries, picture, path, order):
    """The strokes of the picture within the frame at the path, of the whole one for ()."""
    found = []
    for index in sequence_at(order, path):
        cell, place = picture[index], path + (index,)
        entry = entries[cell[4][1]]
        strokes = [(place, at, stroke) for at, stroke in enumerate(entry[2])]
        if is_framed(cell):
            behind = len(strokes) - entry[4]
            inner = _strokes_at(entries, inner_of(cell), place, order)
            strokes = strokes[:behind] + inner + strokes[behind:]
        found.extend(strokes)
    return found


def _check_signs(stock, book, signs):
    check_stock(stock)
    check_book(book)
    check_signs(stock, signs)


def _check_sorts(thing):
    """Raises BadSorts for any object that is no tuple of sorts."""
    if not are_names(thing):
        raise BadSorts("these are no sorts")


def _row(stock, book, picture):
    strokes = strokes_in_order(stock, picture, order_by(stock, book, picture))
    return tuple([stroke[0] for _, _, stroke in strokes])


def _rows(stock, book, signs):
    return [_row(stock, book, picture) for _, picture in signs]


def _told_by(row, others):
    """The least number of first strokes by which the row is told from the others, None if one begins as it."""
    if any([other[:len(row)] == row for other in others]):
        return None
    return max([_alike(row, other) + 1 for other in others], default=0)


def _alike(row, other):
    """With how many strokes alike the two rows begin."""
    many = 0
    while many < min(len(row), len(other)) and row[many] == other[many]:
        many += 1
    return many
