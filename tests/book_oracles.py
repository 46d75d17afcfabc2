"""What the document says of books, strokes and pens, told once more in the slow way, by Python's own fractions.

Nothing here uses the program.
"""

from fractions import Fraction
from itertools import combinations, product

from tests.oracles import WHOLE, around, by_number, cut_cells, numbers, order_by, sorted_puttings, told, told_box

SIDES = {"left": 0, "right": 1, "upper": 2, "lower": 3}
CORNERS = [("left", "upper"), ("right", "upper"), ("left", "lower"), ("right", "lower")]


def entries(stock):
    return {entry[0]: entry for entry in stock[0] + stock[1]}


def says(book, kinds):
    """What a book says at four kinds."""
    for rule in book[1]:
        if all(wanted in (None, kind) for wanted, kind in zip(rule[:4], kinds)):
            return rule[4]
    return book[2]


def corner_kinds(stock, cells):
    """The kinds in the corners of the box that the cells fill."""
    sides = around(cells)
    found = []
    for corner in CORNERS:
        for cell in cells:
            if all(numbers(cell)[SIDES[word]] == sides[SIDES[word]] for word in corner):
                found.append(entries(stock)[cell[4][1]][1])
    return tuple(found)


def ways(picture, stock, hand, words, path=(), cells=None):
    """All ways to write the picture, where `words(kinds)` are the words that may be taken at a cross.

    Each is (order, sign, asked): asked (path, box, kinds, word) in the sequence of writing.
    """
    cells = list(picture) if cells is None else cells
    cuts = list(cut_cells(cells))
    if not cuts:
        cell, = cells
        place = path + (picture.index(cell),)
        if cell[4][0] == "part":
            return [((place,), cell[4], [])]
        return [((place,) + order, ("within", cell[4][1], sign), asked)
                for order, sign, asked in ways(cell[4][2], stock, hand, words, place)]
    by_word = {word: [cut for cut in cuts if cut[0] == word] for word in ("across", "down")}
    is_cross = all(by_word.values())
    kinds = corner_kinds(stock, cells) if is_cross else None
    found = []
    for word in words(kinds) if is_cross else [cuts[0][0]]:
        turned = ("right" if word == "across" else "lower") in hand
        _, place, one, other = by_word[word][-1 if turned else 0]
        left, right, upper, lower = around(cells)
        share = (place - left) / (right - left) if word == "across" else (place - upper) / (lower - upper)
        here = [(path, told_box(around(cells)), kinds, word)] if is_cross else []
        for told_one, told_other in product(ways(picture, stock, hand, words, path, one),
                                            ways(picture, stock, hand, words, path, other)):
            first, second = (told_other, told_one) if turned else (told_one, told_other)
            sign = (word, told(share), told_one[1], told_other[1])
            found.append((first[0] + second[0], sign, here + first[2] + second[2]))
    return found


def write(stock, book, picture):
    """(order, sign, asked) by a book."""
    way, = ways(picture, stock, book[0], lambda kinds: [says(book, kinds)])
    return way


def leaves(stock):
    """What a cell of the pictures that tell books apart may have, ascending."""
    alone = (WHOLE + (("part", stock[0][0][0]),),)
    return sorted([("part", part[0]) for part in stock[0]] + [("within", frame[0], alone) for frame in stock[1]])


def halves(word):
    half = Fraction(1, 2)
    ends = [(Fraction(0), half), (half, Fraction(1))]
    whole = (Fraction(0), Fraction(1))
    return [told_box(end + whole if word == "across" else whole + end) for end in ends]


def small_pictures(stock):
    """All pictures that may tell two books of the stock apart, the first ahead."""
    boxes = [halves("across"), halves("down"), [one[:2] + other[2:] for one in halves("across") for other in halves("down")]]
    for places in boxes:
        for contents in product(leaves(stock), repeat=len(places)):
            yield tuple(place + (content,) for place, content in zip(places, contents))


def apart(stock, book, other):
    for picture in small_pictures(stock):
        if write(stock, book, picture)[0] != write(stock, other, picture)[0]:
            return picture
    return None


def clean(stock, book):
    kinds = sorted({entry[1] for entry in stock[0] + stock[1]})
    hand, rules, word = book
    for many in range(len(rules) + 1):
        for kept in combinations(rules, many):
            less = (hand, kept, word)
            if all(says(less, four) == says(book, four) for four in product(kinds, repeat=4)):
                return less


def choices(stock, samples, hand):
    """What each book says that writes the samples, as a list of unlike sets: one set, or none."""
    known = [frozenset()]
    for picture, order in samples:
        further = set()
        for way in ways(picture, stock, hand, lambda kinds: ["across", "down"]):
            if way[0] == order:
                wants = frozenset((kinds, word) for _, _, kinds, word in way[2])
                further |= {wants | before for before in known}
        known = [wants for wants in further if len(dict(wants)) == len(wants)]
    return sorted(set(known), key=sorted)


def wants(stock, sample, hand):
    """For each way in which any words write the sample, what these are: all (kinds, word)."""
    return [[entry[2:] for entry in way[2]]
            for way in ways(sample[0], stock, hand, lambda kinds: ["across", "down"]) if way[0] == sample[1]]


def fault(stock, samples, hand):
    """What choice_fault tells, by trying all samples alone, and then all pairs."""
    told = [wants(stock, sample, hand) for sample in samples]
    for index, some in enumerate(told):
        if not some:
            return (index, None)
    for second in range(len(told)):
        for first in range(second + 1):
            if all(any(kinds == others and word != wanted for kinds, word in one for others, wanted in other)
                   for one, other in product(told[first], told[second])):
                return (first, second)
    return None


def all_orders(picture, hand):
    return sorted({order_by(sign, hand) for sign in sorted_puttings(picture)})


def strokes(stock, picture, order, path=()):
    """(path, index) of all strokes, written in an order."""
    found = []
    for place in order:
        if place[:-1] == path:
            cell = picture[place[-1]]
            entry = entries(stock)[cell[4][1]]
            indexes = [(place, index) for index in range(len(entry[2]))]
            last = entry[4] if len(entry) == 5 else 0
            found += indexes[:len(indexes) - last]
            if cell[4][0] == "within":
                found += strokes(stock, cell[4][2], order, place)
            found += indexes[len(indexes) - last:]
    return found


def stroke_at(stock, picture, path, index):
    for step in path[:-1]:
        picture = picture[step][4][2]
    return entries(stock)[picture[path[-1]][4][1]][2][index]


def row(stock, book, picture):
    order = write(stock, book, picture)[0]
    return tuple(stroke_at(stock, picture, path, index)[0] for path, index in strokes(stock, picture, order))


def points(stock, picture, path, index):
    """The points of a stroke by the whole box, as numbers, from the inside out."""
    found = [tuple(Fraction(*side) for side in point) for point in stroke_at(stock, picture, path, index)[1]]
    boxes = []
    for step in path:
        cell = picture[step]
        boxes.append(numbers(cell))
        if cell[4][0] == "within":
            boxes.append(numbers(entries(stock)[cell[4][1]][3]))
            picture = cell[4][2]
    # Those of a frame are drawn into its own cell's box, not into its hole.
    for left, right, upper, lower in reversed(boxes[:2 * len(path) - 1]):
        found = [(left + across * (right - left), upper + down * (lower - upper)) for across, down in found]
    return found


def distance(one, other):
    return abs(one[0] - other[0]) + abs(one[1] - other[1])


def lifts(stock, picture, order):
    found = [points(stock, picture, path, index) for path, index in strokes(stock, picture, order)]
    return [distance(one[-1], other[0]) for one, other in zip(found, found[1:])]


def way(stock, picture, order):
    total = Fraction(0)
    for path, index in strokes(stock, picture, order):
        along = points(stock, picture, path, index)
        total += sum(distance(one, other) for one, other in zip(along, along[1:]))
    return total


def sorted_cells(cells):
    return tuple(sorted(cells, key=by_number))
