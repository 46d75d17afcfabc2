"""What the document says of pictures and puttings, told once more in the slow way, by Python's own fractions.

Nothing here uses the program.
"""

from fractions import Fraction
from itertools import permutations

HANDS = [(one, other) for one in ("left", "right") for other in ("upper", "lower")]
WHOLE = ((0, 1), (1, 1), (0, 1), (1, 1))


def told(number):
    """A Fraction as the program tells it."""
    return (number.numerator, number.denominator)


def numbers(box):
    return tuple(Fraction(*side) for side in box[:4])


def told_box(sides):
    return tuple(told(side) for side in sides)


def by_number(box):
    """What boxes and cells are sorted by."""
    return numbers(box)


def sign_key(sign):
    """What signs are sorted by: themselves, with numbers in place of the cuts."""
    if sign[0] in ("across", "down"):
        return (sign[0], Fraction(*sign[1]), sign_key(sign[2]), sign_key(sign[3]))
    if sign[0] == "within":
        return (sign[0], sign[1], sign_key(sign[2]))
    return sign


def picture_by(sign):
    """The picture of a sign, made by drawing pictures together as the document says."""
    if sign[0] == "part":
        return (WHOLE + (sign,),)
    if sign[0] == "within":
        return (WHOLE + (("within", sign[1], picture_by(sign[2])),),)
    share = Fraction(*sign[1])
    first, low = (0, 0) if sign[0] == "across" else (2, 2)
    cells = []
    for inner, start, length in ((sign[2], Fraction(0), share), (sign[3], share, 1 - share)):
        for cell in picture_by(inner):
            sides = list(numbers(cell))
            for side in (first, first + 1):
                sides[side] = start + length * sides[side]
            cells.append(told_box(sides) + (cell[4],))
    return tuple(sorted(cells, key=by_number))


def levels(picture, path=()):
    yield path, picture
    for index, cell in enumerate(picture):
        if cell[4][0] == "within":
            yield from levels(cell[4][2], path + (index,))


def paths(picture):
    return sorted(path + (index,) for path, level in levels(picture) for index in range(len(level)))


def cut_cells(cells):
    """The cuts through a list of cells that fill a box: (word, Fraction, cells, cells)."""
    for word, low in (("across", 0), ("down", 2)):
        spans = [numbers(cell)[low:low + 2] for cell in cells]
        for place in sorted({end for span in spans for end in span}):
            one = [cell for cell, span in zip(cells, spans) if span[1] <= place]
            other = [cell for cell, span in zip(cells, spans) if span[0] >= place]
            if one and other and len(one) + len(other) == len(cells):
                yield word, place, one, other


def around(cells):
    """The box that the cells fill."""
    every = [numbers(cell) for cell in cells]
    return (min(side[0] for side in every), max(side[1] for side in every),
            min(side[2] for side in every), max(side[3] for side in every))


def all_boxes(cells):
    """The cells of each box that comes by cutting, by the box."""
    found = {}
    waiting = [list(cells)]
    while waiting:
        now = waiting.pop()
        if around(now) not in found:
            found[around(now)] = now
            for _, _, one, other in cut_cells(now):
                waiting += [one, other]
    return found


def all_puttings(cells):
    """All signs of the cells, in no special sequence."""
    if len(cells) == 1:
        content = cells[0][4]
        if content[0] == "part":
            return [content]
        return [("within", content[1], sign) for sign in all_puttings(content[2])]
    left, right, upper, lower = around(cells)
    found = []
    for word, place, one, other in cut_cells(cells):
        share = (place - left) / (right - left) if word == "across" else (place - upper) / (lower - upper)
        for first in all_puttings(one):
            for second in all_puttings(other):
                found.append((word, told(share), first, second))
    return found


def sorted_puttings(picture):
    return sorted(all_puttings(picture), key=sign_key)


def leaves(sign, hand, box=(Fraction(0), Fraction(1), Fraction(0), Fraction(1))):
    """The boxes of a sign's parts and frames with these, as the hand writes them."""
    if sign[0] in ("part", "within"):
        return [(box, sign)]
    left, right, upper, lower = box
    share = Fraction(*sign[1])
    if sign[0] == "across":
        middle = left + (right - left) * share
        one, other = (left, middle, upper, lower), (middle, right, upper, lower)
        turned = hand[0] == "right"
    else:
        middle = upper + (lower - upper) * share
        one, other = (left, right, upper, middle), (left, right, middle, lower)
        turned = hand[1] == "lower"
    pieces = [leaves(sign[2], hand, one), leaves(sign[3], hand, other)]
    return pieces[1] + pieces[0] if turned else pieces[0] + pieces[1]


def order_by(sign, hand):
    told_leaves = leaves(sign, hand)
    boxes = sorted(box for box, _ in told_leaves)
    found = []
    for box, leaf in told_leaves:
        index = boxes.index(box)
        found.append((index,))
        if leaf[0] == "within":
            found += [(index,) + path for path in order_by(leaf[2], hand)]
    return tuple(found)


def all_crosses(picture):
    found = []
    for path, level in levels(picture):
        for box, cells in sorted(all_boxes(level).items()):
            if {cut[0] for cut in cut_cells(cells)} == {"across", "down"}:
                found.append((path, told_box(box)))
    return found


def all_bars(picture):
    found = []
    for path, level in levels(picture):
        for box, cells in sorted(all_boxes(level).items()):
            if len(cells) > 1 and not list(cut_cells(cells)):
                found.append((path, told_box(box)))
    return found


def unlike_pairs(orders):
    """The pairs of paths that some of the orders write the one way round, some the other."""
    ahead = {(order[i], order[j]) for order in orders for i in range(len(order)) for j in range(i + 1, len(order))}
    return sorted((one, other) for one, other in ahead if one < other and (other, one) in ahead)


def keeps_frames(order):
    for index, path in enumerate(order):
        inner = [other for other in order if other[:len(path)] == path and other != path]
        if sorted(order[index + 1:index + 1 + len(inner)]) != sorted(inner):
            return False
    return True


def order_bars(picture, hand, order):
    """All bars of an order, by trying all cuts that it allows."""
    if not keeps_frames(order):
        return [((), None)]
    found = []
    for path, level in levels(picture):
        sequence = [other[-1] for other in order if other[:-1] == path]
        seen = {}
        waiting = [list(level)]
        while waiting:
            cells = waiting.pop()
            if around(cells) in seen:
                continue
            ways = []
            for word, _, one, other in cut_cells(cells):
                turned = ("right" if word == "across" else "lower") in hand
                first, second = (other, one) if turned else (one, other)
                written = [index for index in sequence if level[index] in cells]
                if written[:len(first)] == [index for index in written if level[index] in first]:
                    ways.append((first, second))
            seen[around(cells)] = len(cells) > 1 and not ways
            waiting += [piece for way in ways for piece in way]
        found += [(path, told_box(box)) for box in sorted(seen) if seen[box]]
    return found


def frames_kept(picture):
    """All orders of a picture that write behind each frame what is within it; of small ones only."""
    blocks = []
    for index, cell in enumerate(picture):
        inner = frames_kept(cell[4][2]) if cell[4][0] == "within" else [()]
        blocks.append([((index,),) + tuple((index,) + path for path in order) for order in inner])
    found = []
    for row in permutations(blocks):
        orders = [()]
        for block in row:
            orders = [order + more for order in orders for more in block]
        found += orders
    return found


# Pictures by chance.


def cells_by_chance(chance, box, room):
    """Integer boxes that fill an integer box, at most so many."""
    left, right, upper, lower = box
    words = ["across"] * (right - left > 1) + ["down"] * (lower - upper > 1)
    if right - left > 2 and lower - upper > 2 and room > 4:
        words.append("wheel")
    if room == 1 or not words or chance.random() < 0.03:
        return [box]
    word = chance.choice(words)
    if word == "across":
        x = chance.randrange(left + 1, right)
        pieces = [(left, x, upper, lower), (x, right, upper, lower)]
    elif word == "down":
        y = chance.randrange(upper + 1, lower)
        pieces = [(left, right, upper, y), (left, right, y, lower)]
    else:
        pieces = wheel_by_chance(chance, box)
    found = []
    for index, piece in enumerate(pieces):
        behind = len(pieces) - index - 1
        share = room - len(found) - behind
        if behind:
            share = chance.randint(1, share)
        found += cells_by_chance(chance, piece, share)
    return found


def wheel_by_chance(chance, box):
    left, right, upper, lower = box
    x, further = sorted(chance.sample(range(left + 1, right), 2))
    y, below = sorted(chance.sample(range(upper + 1, lower), 2))
    if chance.random() < 0.5:
        return [(left, further, upper, y), (further, right, upper, below), (x, right, below, lower),
                (left, x, y, lower), (x, further, y, below)]
    return [(x, right, upper, y), (further, right, y, lower), (left, further, below, lower),
            (left, x, upper, below), (x, further, y, below)]


def picture_by_chance(chance, room=12, fine=6):
    """A picture with at most so many parts and frames, perhaps one that has no putting."""
    width, height = chance.randint(2, fine), chance.randint(2, fine)
    boxes = cells_by_chance(chance, (0, width, 0, height), max(chance.randint(1, room), chance.randint(1, room)))
    spare = room - len(boxes)
    cells = []
    for left, right, upper, lower in boxes:
        sides = (Fraction(left, width), Fraction(right, width), Fraction(upper, height), Fraction(lower, height))
        content = ("part", chance.choice("abcd"))
        if spare > 1 and chance.random() < 0.4:
            inner = picture_by_chance(chance, chance.randint(1, spare - 1), fine)
            spare -= len(paths(inner))
            content = ("within", chance.choice("fg"), inner)
        cells.append(told_box(sides) + (content,))
    return tuple(sorted(cells, key=by_number))
