import unittest
from fractions import Fraction

from brushedsigns.cuts import (
    bar_holds, bar_of, boxes_of, cells_in, count_puttings, cuts_of, evened, first_putting, is_putting, puttings, ranks_of,
    same_shape)
from brushedsigns.errors import BadBox, BadPicture, TooMany
from brushedsigns.pictures import is_picture, picture_of
from brushedsigns.signs import is_sign
from tests import oracles
from tests.drawn import (
    BARRED, FRAMED, ONE, PICTURE_OF_X, WHEEL, box, cell, columns, drawn, framed_picture, grid, side, with_content)
from tests.oracles import WHOLE, told_box
from tests.test_pictures import PICTURES, some_pictures
from tests.things import (
    A, B, C, D, EqualToAll, HALF, STOCK, Stubborn, X, framed, objects, row, with_each, with_lists)

Y = ("down", HALF, ("across", HALF, A, C), ("across", HALF, B, D))
# How many puttings a line of so many cells has.
LINES = {1: 1, 2: 1, 3: 2, 4: 5, 5: 14, 6: 42, 7: 132, 8: 429, 9: 1430, 10: 4862, 11: 16796, 12: 58786}
# Pictures of 499, 500 and 501 puttings.
FEW_LESS = columns([3, 4, 5], [3, 4], [1, 2, 3, 4])
FIVE_HUNDRED = columns([1, 3], [1, 2, 3, 4, 5], [3], [])
ONE_MORE = columns([1], [1, 2, 3, 4], [2, 3, 4, 5])


def bars_and_others(picture):
    """All (path, box) of the boxes that come by cutting, and some more."""
    found = [((), WHOLE), ((9,), WHOLE), ((), None), ((), box("1/4 3/4 1/4 3/4"))]
    for path, level in oracles.levels(picture):
        found += [(path, told_box(inner)) for inner in oracles.all_boxes(level)]
        found += [(path, entry[:4]) for entry in level]
    return found


def no_boxes():
    """Objects that are no box of any picture here."""
    return objects() + with_lists(WHOLE) + with_each(WHOLE, lambda entry: [None, True, "1", EqualToAll(), Stubborn()]) + [
        WHOLE[:3], WHOLE + ((0, 1),), ONE[0], box("0 1/10001 0 1"), box("0 1 1/2 1/2"), box("1 0 0 1"), box("0 1 1 0"),
        box("0 2 0 1"), box("-1 1 0 1"), ((0, 2), (1, 1), (0, 1), (1, 1)), ((0, 1), (2, 2), (0, 1), (1, 1)), (0, 1, 0, 1),
        ("across", HALF), box("1/7 1 0 1"), box("0 1 0 1/7"), box("0 0 0 1")]


class Boxes(unittest.TestCase):
    def test_cuts_of_x(self):
        self.assertEqual(cuts_of(PICTURE_OF_X, WHOLE), [("across", HALF), ("down", HALF)])
        self.assertEqual(cuts_of(PICTURE_OF_X, box("0 1/2 0 1")), [("down", HALF)])
        self.assertEqual(cuts_of(PICTURE_OF_X, box("1/2 1 0 1")), [("down", HALF)])
        self.assertEqual(cuts_of(PICTURE_OF_X, box("0 1 0 1/2")), [("across", HALF)])
        self.assertEqual(cuts_of(PICTURE_OF_X, box("0 1 1/2 1")), [("across", HALF)])

    def test_single_cells_have_none(self):
        for picture in PICTURES:
            for index, entry in enumerate(picture):
                self.assertEqual(cuts_of(picture, entry[:4]), [])
                self.assertEqual(cells_in(picture, entry[:4]), (index,))

    def test_a_cut_is_told_by_the_whole_picture(self):
        picture = drawn(cell("0 1/3 0 1"), cell("1/3 1 0 1/4"), cell("1/3 5/6 1/4 1"), cell("5/6 1 1/4 1"))
        self.assertEqual(cuts_of(picture, WHOLE), [("across", side("1/3"))])
        self.assertEqual(cuts_of(picture, box("1/3 1 0 1")), [("down", side("1/4"))])
        self.assertEqual(cuts_of(picture, box("1/3 1 1/4 1")), [("across", side("5/6"))])

    def test_cuts_ascend_as_numbers(self):
        picture = drawn(*[cell(f"{left} {right} 0 1") for left, right in [("0", "1/3"), ("1/3", "1/2"), ("1/2", "1")]])
        self.assertEqual(cuts_of(picture, WHOLE), [("across", (1, 3)), ("across", (1, 2))])
        picture = drawn(*[cell(f"0 1 {left} {right}") for left, right in [("0", "1/3"), ("1/3", "1/2"), ("1/2", "1")]])
        self.assertEqual(cuts_of(picture, WHOLE), [("down", (1, 3)), ("down", (1, 2))])
        self.assertEqual(boxes_of(picture), [
            box("0 1 0 1/3"), box("0 1 0 1/2"), box("0 1 0 1"), box("0 1 1/3 1/2"), box("0 1 1/3 1"), box("0 1 1/2 1")])

    def test_pictures_of_which_no_box_has_a_cut(self):
        for picture in (ONE, WHEEL, framed_picture(PICTURE_OF_X)):
            self.assertEqual(cuts_of(picture, WHOLE), [])
            self.assertEqual(boxes_of(picture), [WHOLE])
        self.assertEqual(cells_in(WHEEL, WHOLE), (0, 1, 2, 3, 4))

    def test_a_box_need_not_come_by_cutting(self):
        picture = grid(3, 3)
        middle = box("1/3 2/3 1/3 2/3")
        self.assertEqual(cells_in(picture, middle), (4,))
        # The wheel, the cell on its left and above in two.
        picture = drawn(cell("0 1/2 0 1/3"), cell("1/2 2/3 0 1/3"), WHEEL[0], *WHEEL[2:])
        self.assertEqual(boxes_of(picture), [WHOLE])
        self.assertEqual(cuts_of(picture, box("0 2/3 0 1/3")), [("across", (1, 2))])
        self.assertEqual(cells_in(picture, box("0 2/3 0 1/3")), (1, 4))

    def test_cells_in(self):
        self.assertEqual(cells_in(PICTURE_OF_X, WHOLE), (0, 1, 2, 3))
        self.assertEqual(cells_in(PICTURE_OF_X, box("0 1 1/2 1")), (1, 3))
        self.assertEqual(cells_in(grid(3, 4), box("1/4 3/4 1/3 1")), (4, 5, 7, 8))
        self.assertEqual(cells_in(framed_picture(FRAMED), WHOLE), (0,))

    def test_boxes_of(self):
        self.assertEqual(boxes_of(PICTURE_OF_X), [box(text) for text in (
            "0 1/2 0 1/2", "0 1/2 0 1", "0 1/2 1/2 1", "0 1 0 1/2", "0 1 0 1", "0 1 1/2 1", "1/2 1 0 1/2", "1/2 1 0 1",
            "1/2 1 1/2 1")])
        self.assertEqual(boxes_of(FRAMED), [box(text) for text in (
            "0 1/3 0 1", "0 2/3 0 1", "0 1 0 1", "1/3 2/3 0 1", "1/3 1 0 1", "2/3 1 0 1")])
        self.assertEqual(len(boxes_of(grid(1, 12))), 78)
        self.assertEqual(len(boxes_of(grid(3, 4))), 60)
        self.assertEqual(len(boxes_of(BARRED)), 9)

    def test_by_chance(self):
        for picture in some_pictures(150):
            known = oracles.all_boxes(picture)
            self.assertEqual(boxes_of(picture), [told_box(inner) for inner in sorted(known)])
            for inner, cells in known.items():
                self.assertEqual(cuts_of(picture, told_box(inner)),
                                 [(word, oracles.told(place)) for word, place, _, _ in oracles.cut_cells(cells)])
                self.assertEqual(cells_in(picture, told_box(inner)),
                                 tuple(index for index, entry in enumerate(picture) if entry in cells))

    def test_bad_box(self):
        for picture in (PICTURE_OF_X, FRAMED, WHEEL):
            for thing in no_boxes():
                for function in (cuts_of, cells_in):
                    with self.assertRaises(BadBox, msg=thing):
                        function(picture, thing)

    def test_boxes_that_are_not_made_of_whole_cells(self):
        for picture, texts in [
                (ONE, ["0 1/2 0 1", "1/4 3/4 0 1", "0 1 1/2 1"]),
                (PICTURE_OF_X, ["0 1/4 0 1", "1/4 3/4 0 1", "0 1 1/4 1", "1/2 1 1/4 1", "0 3/4 0 1", "1/4 1/3 1/4 1/3"]),
                (WHEEL, ["0 2/3 0 1", "0 1 0 1/3", "1/3 1 0 1", "0 2/3 0 2/3", "1/3 2/3 0 1", "1/3 1 1/3 1"]),
                (FRAMED, ["0 1/3 0 1/2", "1/3 1/2 0 1/2", "1/3 1/2 0 1"])]:
            for text in texts:
                for function in (cuts_of, cells_in):
                    with self.assertRaises(BadBox, msg=text):
                        function(picture, box(text))


class Puttings(unittest.TestCase):
    def test_the_example(self):
        self.assertEqual(count_puttings(PICTURE_OF_X), 2)
        self.assertEqual(puttings(PICTURE_OF_X), [X, Y])
        self.assertEqual(first_putting(PICTURE_OF_X), X)

    def test_one_cell(self):
        self.assertEqual(puttings(ONE), [A])
        self.assertEqual(puttings(framed_picture(ONE)), [("within", "f", A)])
        self.assertEqual(first_putting(framed_picture(PICTURE_OF_X)), ("within", "f", X))
        self.assertEqual(puttings(framed_picture(PICTURE_OF_X)), [("within", "f", X), ("within", "f", Y)])

    def test_lines(self):
        for many, count in LINES.items():
            self.assertEqual(count_puttings(grid(1, many)), count)
            self.assertEqual(count_puttings(grid(many, 1)), count)

    def test_grids(self):
        for rows, many, count in [(2, 2, 2), (2, 3, 8), (2, 4, 45), (3, 3, 64), (2, 6, 2644), (3, 4, 770)]:
            self.assertEqual(count_puttings(grid(rows, many)), count)
            self.assertEqual(count_puttings(grid(many, rows)), count)

    def test_frames_multiply(self):
        self.assertEqual(count_puttings(FRAMED), 2 * 2)
        three = ("within", "f", grid(1, 3))
        both = with_content(with_content(PICTURE_OF_X, 0, three), 3, three)
        self.assertEqual(count_puttings(both), 2 * 2 * 2)
        self.assertEqual(count_puttings(framed_picture(grid(1, 11))), LINES[11])
        self.assertEqual(len(puttings(both)), 8)

    def test_pictures_without_a_putting(self):
        for picture in [
                WHEEL, framed_picture(WHEEL), BARRED, framed_picture(BARRED),
                drawn(*[cell(text) for text in (
                    "0 1/3 0 1/6", "1/3 1 0 1/3", "2/3 1 1/3 1", "0 2/3 2/3 1", "0 1/3 1/6 2/3", "1/3 2/3 1/3 2/3")])]:
            self.assertIs(is_picture(picture), True)
            self.assertEqual(count_puttings(picture), 0)
            self.assertIsNone(first_putting(picture))
            self.assertEqual(puttings(picture), [])

    def test_a_part_of_a_picture_without_a_putting_bars_it(self):
        ahead = [cell(f"{k}/24 {k + 1}/24 0 1") for k in range(6)]
        wheel = [told_box((1 - (1 - left) * 3 / 4, 1 - (1 - right) * 3 / 4, upper, lower)) + (A,)
                 for left, right, upper, lower in map(oracles.numbers, WHEEL)]
        picture = drawn(*ahead, *wheel)
        self.assertIs(is_picture(picture), True)
        self.assertEqual(count_puttings(picture), 0)
        self.assertIsNone(first_putting(picture))
        self.assertEqual(puttings(picture), [])
        self.assertEqual(bar_of(picture), ((), box("1/4 1 0 1")))

    def test_five_hundred_and_more(self):
        self.assertEqual(count_puttings(FEW_LESS), 499)
        self.assertEqual(len(puttings(FEW_LESS)), 499)
        self.assertEqual(count_puttings(FIVE_HUNDRED), 500)
        self.assertEqual(puttings(FIVE_HUNDRED), oracles.sorted_puttings(FIVE_HUNDRED))
        for picture in [ONE_MORE, grid(1, 9), grid(1, 12), grid(3, 4), framed_picture(grid(1, 9))]:
            self.assertGreater(count_puttings(picture), 500)
            with self.assertRaises(TooMany):
                puttings(picture)
        self.assertEqual(count_puttings(ONE_MORE), 501)
        self.assertEqual(len(puttings(grid(1, 8))), 429)

    def test_the_first_of_very_many(self):
        self.assertEqual(first_putting(grid(1, 12)), rights(grid(1, 12)))
        self.assertIs(is_putting(grid(1, 12), first_putting(grid(1, 12))), True)
        self.assertEqual(first_putting(grid(3, 4))[:2], ("across", (1, 4)))

    def test_the_first_as_numbers_and_not_as_tuples(self):
        picture = drawn(cell("0 1/3 0 1", A), cell("1/3 1/2 0 1", B), cell("1/2 1 0 1", C))
        one = ("across", (1, 3), A, ("across", (1, 4), B, C))
        other = ("across", (1, 2), ("across", (2, 3), A, B), C)
        self.assertLess(other, one)
        self.assertEqual(first_putting(picture), one)
        self.assertEqual(puttings(picture), [one, other])

    def test_by_chance(self):
        seen = 0
        for picture in PICTURES + some_pictures(200, 8):
            many = count_puttings(picture)
            if many > 500:
                continue
            wanted = oracles.sorted_puttings(picture)
            self.assertEqual(puttings(picture), wanted)
            self.assertEqual(many, len(wanted))
            self.assertEqual(first_putting(picture), wanted[0] if wanted else None)
            for sign in wanted[:20]:
                self.assertIs(is_sign(sign), True)
                self.assertEqual(picture_of(sign), picture)
                self.assertIs(is_putting(picture, sign), True)
            seen += many > 1
        self.assertGreater(seen, 50)

    def test_is_putting(self):
        for sign in (X, Y):
            self.assertIs(is_putting(PICTURE_OF_X, sign), True)
        for thing in objects() + with_lists(X) + [
                A, PICTURE_OF_X, ("within", "f", X), ("across", HALF, X[3], X[2]), ("across", (1, 3), X[2], X[3]), STOCK,
                row(13), framed(12), ("across", HALF, ("down", HALF, A, B), ("down", HALF, C, C))]:
            self.assertIs(is_putting(PICTURE_OF_X, thing), False)
            self.assertIs(is_putting(WHEEL, thing), False)
        self.assertIs(is_putting(WHEEL, X), False)
        self.assertIs(is_putting(ONE, A), True)
        self.assertIs(is_putting(ONE, ("part", "b")), False)

    def test_a_putting_with_a_cut_of_a_great_bottom(self):
        picture = drawn(cell("0 5000/9999 0 1", A), cell("5000/9999 9999/10000 0 1", B), cell("9999/10000 1 0 1", C))
        self.assertEqual(puttings(picture), oracles.sorted_puttings(picture))
        self.assertIs(is_putting(picture, ("across", (9999, 10000), ("across", (50000000, 99980001), A, B), C)), True)


def rights(picture):
    """The putting of a row of equal cells that cuts off one cell on the left each time."""
    if len(picture) == 1:
        return picture[0][4]
    return ("across", (1, len(picture)), picture[0][4], rights(picture[1:]))


class Bars(unittest.TestCase):
    def test_in_the_whole_picture(self):
        self.assertEqual(bar_of(WHEEL), ((), WHOLE))
        self.assertIs(bar_holds(WHEEL, ((), WHOLE)), True)

    def test_within_frames(self):
        self.assertEqual(bar_of(BARRED), ((1,), WHOLE))
        self.assertEqual(bar_of(framed_picture(framed_picture(BARRED))), ((0, 0, 1), WHOLE))
        self.assertEqual(bar_of(framed_picture(WHEEL)), ((0,), WHOLE))

    def test_none(self):
        for picture in (ONE, PICTURE_OF_X, FRAMED, grid(1, 12), grid(3, 4), framed_picture(FRAMED)):
            self.assertIsNone(bar_of(picture))
            for thing in bars_and_others(picture):
                self.assertIs(bar_holds(picture, thing), False)

    def test_the_first_of_several(self):
        lower = [told_box((left, right, (1 + upper) / 2, (1 + low) / 2)) + (A,)
                 for left, right, upper, low in map(oracles.numbers, WHEEL)]
        upper_half = [told_box((left, right, upper / 2, low / 2)) + (B,)
                      for left, right, upper, low in map(oracles.numbers, WHEEL)]
        picture = drawn(*lower, *upper_half)
        first, second = ((), box("0 1 0 1/2")), ((), box("0 1 1/2 1"))
        self.assertEqual(bar_of(picture), first)
        self.assertIs(bar_holds(picture, first), True)
        self.assertIs(bar_holds(picture, second), True)
        self.assertIs(bar_holds(picture, ((), WHOLE)), False)
        framed_twice = with_content(BARRED, 2, ("within", "g", ONE))
        self.assertEqual(bar_of(framed_twice), ((1,), WHOLE))

    def test_the_whole_picture_ahead_of_what_is_within(self):
        picture = with_content(WHEEL, 0, ("within", "f", WHEEL))
        self.assertEqual(bar_of(picture), ((), WHOLE))
        self.assertIs(bar_holds(picture, ((0,), WHOLE)), True)
        self.assertIs(bar_holds(picture, ((1,), WHOLE)), False)

    def test_a_box_comes_ahead_as_a_number(self):
        cells = [cell("0 1/3 0 1")]
        for start, end in [(Fraction(1, 3), Fraction(1, 2)), (Fraction(1, 2), Fraction(1))]:
            for left, right, upper, lower in map(oracles.numbers, WHEEL):
                across = (start + (end - start) * left, start + (end - start) * right)
                cells.append(told_box(across + (upper, lower)) + (A,))
        picture = drawn(*cells)
        first, second = ((), box("1/3 1/2 0 1")), ((), box("1/2 1 0 1"))
        self.assertLess(second, first)
        self.assertEqual(bar_of(picture), first)
        self.assertIs(bar_holds(picture, second), True)

    def test_by_chance(self):
        seen = 0
        for picture in PICTURES + some_pictures(250, 9):
            bars = oracles.all_bars(picture)
            seen += len(bars) > 0
            self.assertEqual(bar_of(picture), bars[0] if bars else None)
            self.assertEqual(bar_of(picture) is None, count_puttings(picture) > 0)
            for thing in bars_and_others(picture):
                self.assertIs(bar_holds(picture, thing), thing in bars)
        self.assertGreater(seen, 8)

    def test_objects_that_are_none(self):
        for picture, bar in [(WHEEL, ((), WHOLE)), (BARRED, ((1,), WHOLE))]:
            self.assertIs(bar_holds(picture, bar), True)
            for thing in objects() + with_lists(bar) + [
                    WHOLE, bar[:1], bar + ((),), (bar,), (bar[1], bar[0]), (None, WHOLE), (bar[0], None), ((True,), WHOLE),
                    ((False,), WHOLE), (bar[0], EqualToAll()), (EqualToAll(), WHOLE), ((EqualToAll(),), WHOLE),
                    (Stubborn(), WHOLE), (bar[0], Stubborn()), (bar[0], (EqualToAll(),) * 4), (0, WHOLE), ("", WHOLE),
                    (bar[0], (0, 1, 0, 1)), (bar[0], box("0 1/2 0 1")), (bar[0], ((0, 1), (True, 1), (0, 1), (1, 1))),
                    ((0,), WHOLE), ((1, 4), WHOLE), ((-1,), WHOLE), ((7,), WHOLE)]:
                self.assertIs(bar_holds(picture, thing), False, thing)


class Shapes(unittest.TestCase):
    def test_ranks(self):
        self.assertEqual(ranks_of(ONE), ((0, 1, 0, 1, A),))
        self.assertEqual(ranks_of(PICTURE_OF_X), (
            (0, 1, 0, 1, A), (0, 1, 1, 2, B), (1, 2, 0, 1, C), (1, 2, 1, 2, D)))
        self.assertEqual(ranks_of(columns([1], [], [2, 3])), (
            (0, 1, 0, 1, A), (0, 1, 1, 4, B), (1, 2, 0, 4, C), (2, 3, 0, 2, D), (2, 3, 2, 3, ("part", "e")),
            (2, 3, 3, 4, ("part", "f"))))

    def test_ranks_go_by_the_numbers(self):
        picture = drawn(cell("0 1/3 0 1", A), cell("1/3 1/2 0 1", B), cell("1/2 1 0 1", C))
        self.assertEqual(ranks_of(picture), ((0, 1, 0, 1, A), (1, 2, 0, 1, B), (2, 3, 0, 1, C)))

    def test_ranks_within_frames(self):
        self.assertEqual(ranks_of(FRAMED), (
            (0, 1, 0, 1, A), (1, 2, 0, 1, ("within", "f", ranks_of(PICTURE_OF_X))), (2, 3, 0, 1, B)))
        self.assertEqual(ranks_of(framed_picture(WHEEL)), ((0, 1, 0, 1, ("within", "f", ranks_of(WHEEL))),))

    def test_pictures_of_the_same_shape_with_other_numbers(self):
        other = drawn(cell("0 1/7 0 9/10", A), cell("0 1/7 9/10 1", B), cell("1/7 1 0 9/10", C), cell("1/7 1 9/10 1", D))
        for make in (lambda picture: picture, framed_picture, lambda picture: with_content(FRAMED, 1, (
                "within", "f", picture))):
            self.assertIs(same_shape(make(PICTURE_OF_X), make(other)), True)
            self.assertIs(same_shape(make(other), make(PICTURE_OF_X)), True)

    def test_near_ones_that_are_not(self):
        bent = drawn(cell("0 1/2 0 1/2", A), cell("0 1/2 1/2 1", B), cell("1/2 1 0 1/3", C), cell("1/2 1 1/3 1", D))
        for other in [
                bent, ONE, FRAMED, framed_picture(PICTURE_OF_X), with_content(PICTURE_OF_X, 3, A),
                with_content(PICTURE_OF_X, 3, ("within", "d", ONE)), columns([3], [], parts=6), grid(1, 4), grid(4, 1)]:
            for make in (lambda picture: picture, framed_picture):
                self.assertIs(same_shape(make(PICTURE_OF_X), make(other)), False)
                self.assertIs(same_shape(make(other), make(PICTURE_OF_X)), False)
        self.assertIs(same_shape(framed_picture(ONE, "f"), framed_picture(ONE, "g")), False)

    def test_evened(self):
        other = drawn(cell("0 1/7 0 9/10", A), cell("0 1/7 9/10 1", B), cell("1/7 1 0 9/10", C), cell("1/7 1 9/10 1", D))
        self.assertEqual(evened(other), PICTURE_OF_X)
        self.assertEqual(evened(framed_picture(other)), framed_picture(PICTURE_OF_X))
        self.assertEqual(evened(ONE), ONE)
        self.assertEqual(evened(columns([1], [], [2, 3])), drawn(
            cell("0 1/3 0 1/4", A), cell("0 1/3 1/4 1", B), cell("1/3 2/3 0 1", C), cell("2/3 1 0 1/2", D),
            cell("2/3 1 1/2 3/4", ("part", "e")), cell("2/3 1 3/4 1", ("part", "f"))))
        self.assertEqual(evened(grid(1, 12)), grid(1, 12))

    def test_by_chance(self):
        for picture in PICTURES + some_pictures(100, 10):
            even = evened(picture)
            self.assertIs(is_picture(even), True)
            self.assertEqual(ranks_of(even), ranks_of(picture))
            self.assertIs(same_shape(picture, even), True)
            self.assertEqual(evened(even), even)
            self.assertEqual(count_puttings(even), count_puttings(picture))
            for _, level in oracles.levels(even):
                for low in (0, 2):
                    places = sorted({number for entry in level for number in oracles.numbers(entry)[low:low + 2]})
                    self.assertEqual(len({high - under for under, high in zip(places, places[1:])}), 1)


class BadPictures(unittest.TestCase):
    def test_bad_picture(self):
        for thing in objects() + with_lists(PICTURE_OF_X) + [X, PICTURE_OF_X[::-1], PICTURE_OF_X[:3]]:
            for function in (boxes_of, count_puttings, first_putting, puttings, bar_of, ranks_of, evened):
                with self.assertRaises(BadPicture):
                    function(thing)
            for function in (cuts_of, cells_in, is_putting, bar_holds):
                for other in [WHOLE, X, ((), WHOLE), None]:
                    with self.assertRaises(BadPicture):
                        function(thing, other)
            for pictures in [(thing, ONE), (ONE, thing), (thing, None)]:
                with self.assertRaises(BadPicture):
                    same_shape(*pictures)


if __name__ == "__main__":
    unittest.main()
