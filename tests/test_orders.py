import random
import unittest

from brushedsigns.cuts import count_puttings
from brushedsigns.errors import BadHand, BadOrder, BadPicture, BadSign
from brushedsigns.moving import all_led, plain
from brushedsigns.orders import (
    count_orders, crosses_of, one_order, order_bar, order_bar_holds, order_of, order_putting, orders_of, unlike_parts)
from brushedsigns.pictures import paths_of, picture_of
from tests import oracles
from tests.drawn import (
    BARRED, FRAMED, LEFT_UPPER, ONE, PICTURE_OF_X, WHEEL, box, cell, columns, drawn, framed_picture, grid, with_content)
from tests.oracles import HANDS, WHOLE, told_box
from tests.test_pictures import PICTURES, some_pictures
from tests.things import (
    A, B, C, D, EqualToAll, HALF, STOCK, Stubborn, X, framed, objects, row, with_each, with_lists)

Y = ("down", HALF, ("across", HALF, A, C), ("across", HALF, B, D))
PARTED_FRAME = ((), None)
NO_HANDS = objects() + with_lists(LEFT_UPPER) + [
    ("left",), ("left", "upper", "left"), ("upper", "left"), ("left", "left"), ("left", "right"), ("upper", "lower"),
    ("Left", "upper"), ("left", "down"), ("across", "down"), ("left", None), (None, "upper"), (EqualToAll(), "upper"),
    ("left", EqualToAll()), (Stubborn(), "upper"), ("left", Stubborn()), "left", (b"left", b"upper"), (("left",), "upper")]


def cells(*indexes):
    """The order that writes these cells, no frame among them."""
    return tuple((index,) for index in indexes)


def no_orders(picture):
    """Objects that are no tuple of all paths of the picture, each once."""
    paths = paths_of(picture)
    found = objects() + with_lists(paths) + [
        paths[:-1], paths[1:], paths + paths[:1], paths[:-1] + paths[:1], paths + ((),), paths[:-1] + ((),), paths + (None,),
        paths[:-1] + (None,), (None,) + paths[1:], paths[:-1] + ((99,),), paths[:-1] + (EqualToAll(),),
        paths[:-1] + ((EqualToAll(),),), paths[:-1] + (Stubborn(),), (paths,), paths[:-1] + (paths[-1] + (0,),),
        ((False,),) + paths[1:], ((True,),) + paths[1:], paths[:-1] + ((-1,),), paths[:-1] + ("0",), paths[:-1] + (0,)]
    if len(paths) > 1:
        found.append(paths[:1] + ((True,),) + paths[2:])
    return [thing for thing in found if repr(thing) != repr(paths)]


def some_orders(chance, picture, hand, signs):
    """Orders of the signs, and tuples of all paths that are near to one."""
    found = [oracles.order_by(sign, hand) for sign in signs[:4]] + [paths_of(picture)]
    for _ in range(4):
        order = list(chance.choice(found))
        for _ in range(chance.randint(1, 2)):
            one, other = chance.randrange(len(order)), chance.randrange(len(order))
            order[one], order[other] = order[other], order[one]
        found.append(tuple(order))
    return found


def first_by_order(signs, hand):
    """The first of the ascending signs for each order that some of them have."""
    found = {}
    for sign in signs:
        found.setdefault(oracles.order_by(sign, hand), sign)
    return found


def groups(many, seed):
    """Pictures by chance, with their signs where these are at most a hundred, without a putting too."""
    found = []
    for picture in PICTURES[:6] + some_pictures(many, seed):
        if count_puttings(picture) <= 100:
            found.append((picture, oracles.sorted_puttings(picture)))
    return found


GROUPS = groups(250, 31)


class OrderOf(unittest.TestCase):
    def test_the_example(self):
        self.assertEqual(order_of(X, LEFT_UPPER), cells(0, 1, 2, 3))
        self.assertEqual(order_of(Y, LEFT_UPPER), cells(0, 2, 1, 3))

    def test_each_of_the_four_hands(self):
        for hand, of_x, of_y in [
                (("left", "upper"), (0, 1, 2, 3), (0, 2, 1, 3)), (("right", "upper"), (2, 3, 0, 1), (2, 0, 3, 1)),
                (("left", "lower"), (1, 0, 3, 2), (1, 3, 0, 2)), (("right", "lower"), (3, 2, 1, 0), (3, 1, 2, 0))]:
            self.assertEqual(order_of(X, hand), cells(*of_x))
            self.assertEqual(order_of(Y, hand), cells(*of_y))

    def test_parts_and_frames(self):
        self.assertEqual(order_of(A, LEFT_UPPER), ((0,),))
        self.assertEqual(order_of(framed(2), LEFT_UPPER), ((0,), (0, 0), (0, 0, 0)))
        sign = ("across", HALF, ("within", "f", X), ("within", "g", ("down", HALF, A, B)))
        self.assertEqual(order_of(sign, LEFT_UPPER), ((0,), (0, 0), (0, 1), (0, 2), (0, 3), (1,), (1, 0), (1, 1)))
        self.assertEqual(order_of(sign, ("right", "lower")), ((1,), (1, 1), (1, 0), (0,), (0, 3), (0, 2), (0, 1), (0, 0)))
        self.assertEqual(order_of(sign, ("left", "lower")), ((0,), (0, 1), (0, 0), (0, 3), (0, 2), (1,), (1, 1), (1, 0)))

    def test_a_frame_in_the_middle(self):
        sign = ("down", HALF, ("within", "f", Y), C)
        self.assertEqual(order_of(sign, LEFT_UPPER), ((0,), (0, 0), (0, 2), (0, 1), (0, 3), (1,)))
        self.assertEqual(order_of(sign, ("left", "lower")), ((1,), (0,), (0, 1), (0, 3), (0, 0), (0, 2)))

    def test_the_paths_ascend_as_numbers(self):
        sign = ("across", HALF, ("across", (2, 3), A, B), C)
        self.assertEqual(order_of(sign, LEFT_UPPER), cells(0, 1, 2))
        self.assertEqual(order_of(sign, ("right", "upper")), cells(2, 1, 0))

    def test_by_chance(self):
        for _, signs in GROUPS:
            for sign in signs[:10]:
                for hand in HANDS:
                    self.assertEqual(order_of(sign, hand), oracles.order_by(sign, hand))

    def test_rows(self):
        self.assertEqual(order_of(row(12), LEFT_UPPER), cells(*range(12)))
        self.assertEqual(order_of(row(12, "down"), ("left", "lower")), cells(*range(11, -1, -1)))


class OrdersOf(unittest.TestCase):
    def test_the_example(self):
        self.assertEqual(orders_of(PICTURE_OF_X, LEFT_UPPER), [cells(0, 1, 2, 3), cells(0, 2, 1, 3)])
        self.assertEqual(orders_of(PICTURE_OF_X, ("right", "lower")), [cells(3, 1, 2, 0), cells(3, 2, 1, 0)])
        self.assertEqual(count_orders(PICTURE_OF_X), 2)

    def test_brackets_make_no_other_order(self):
        for picture in (grid(1, 12), grid(12, 1), columns([1], [], [2, 3])):
            self.assertEqual(count_orders(picture), 1)
            self.assertEqual(len(orders_of(picture, LEFT_UPPER)), 1)
        self.assertEqual(orders_of(grid(1, 12), ("right", "upper")), [cells(*range(11, -1, -1))])

    def test_frames_multiply(self):
        self.assertEqual(orders_of(FRAMED, LEFT_UPPER), [
            ((0,), (1,), (1, 0), (1, 1), (1, 2), (1, 3), (2,)), ((0,), (1,), (1, 0), (1, 2), (1, 1), (1, 3), (2,))])
        both = drawn(cell("0 1/2 0 1", ("within", "f", PICTURE_OF_X)), cell("1/2 1 0 1", ("within", "g", PICTURE_OF_X)))
        self.assertEqual(count_orders(both), 4)
        self.assertEqual(len(orders_of(both, LEFT_UPPER)), 4)
        self.assertEqual(count_orders(framed_picture(PICTURE_OF_X)), 2)

    def test_without_a_putting(self):
        for picture in (WHEEL, BARRED, framed_picture(WHEEL)):
            for hand in HANDS:
                self.assertEqual(orders_of(picture, hand), [])
            self.assertEqual(count_orders(picture), 0)

    def test_great_grids(self):
        for rows, many, count in [(3, 4, 48), (4, 3, 48), (2, 6, 32), (2, 5, 16), (3, 3, 14)]:
            self.assertEqual(count_orders(grid(rows, many)), count)
            for hand in HANDS:
                orders = orders_of(grid(rows, many), hand)
                self.assertEqual(len(orders), count)
                self.assertEqual(orders, sorted(set(orders)))

    def test_by_chance(self):
        for picture, signs in GROUPS:
            for hand in HANDS:
                orders = {oracles.order_by(sign, hand) for sign in signs}
                self.assertEqual(orders_of(picture, hand), sorted(orders))
                self.assertEqual(count_orders(picture), len(orders))


class Crosses(unittest.TestCase):
    def test_the_example(self):
        self.assertEqual(crosses_of(PICTURE_OF_X), [((), WHOLE)])
        self.assertIs(one_order(PICTURE_OF_X), False)
        self.assertEqual(unlike_parts(PICTURE_OF_X, LEFT_UPPER), [((1,), (2,))])

    def test_none(self):
        for picture in (ONE, grid(1, 12), columns([1], [], [2, 3]), framed_picture(grid(3, 1))):
            self.assertEqual(crosses_of(picture), [])
            self.assertIs(one_order(picture), True)
            for hand in HANDS:
                self.assertEqual(unlike_parts(picture, hand), [])

    def test_within_frames(self):
        self.assertEqual(crosses_of(FRAMED), [((1,), WHOLE)])
        self.assertEqual(unlike_parts(FRAMED, LEFT_UPPER), [((1, 1), (1, 2))])
        self.assertIs(one_order(FRAMED), False)
        self.assertEqual(crosses_of(framed_picture(FRAMED)), [((0, 1), WHOLE)])
        self.assertEqual(unlike_parts(framed_picture(FRAMED), ("right", "upper")), [((0, 1, 0), (0, 1, 3))])

    def test_several_ascend(self):
        picture = with_content(PICTURE_OF_X, 2, ("within", "f", PICTURE_OF_X))
        self.assertEqual(crosses_of(picture), [((), WHOLE), ((2,), WHOLE)])
        self.assertEqual(crosses_of(grid(2, 3)), [
            ((), box("0 2/3 0 1")), ((), WHOLE), ((), box("1/3 1 0 1"))])
        self.assertEqual(len(crosses_of(grid(3, 4))), 3 * 6)
        thirds = drawn(*[cell(f"{left} {right} {upper} {lower}") for left, right in
                         [("0", "1/3"), ("1/3", "1/2"), ("1/2", "1")] for upper, lower in [("0", "1/2"), ("1/2", "1")]])
        self.assertEqual(crosses_of(thirds), [((), box("0 1/2 0 1")), ((), WHOLE), ((), box("1/3 1 0 1"))])

    def test_a_box_within(self):
        picture = picture_of(("across", (1, 3), A, X))
        self.assertEqual(crosses_of(picture), [((), box("1/3 1 0 1"))])
        self.assertEqual(unlike_parts(picture, LEFT_UPPER), [((2,), (3,))])
        self.assertEqual(unlike_parts(picture, ("right", "upper")), [((1,), (4,))])

    def test_pictures_without_a_putting(self):
        self.assertEqual(crosses_of(BARRED), [((), WHOLE)])
        self.assertEqual(crosses_of(WHEEL), [])
        for picture in (WHEEL, BARRED, framed_picture(BARRED)):
            self.assertIs(one_order(picture), False)
            for hand in HANDS:
                self.assertEqual(unlike_parts(picture, hand), [])

    def test_the_diagonal_of_each_hand(self):
        for hand, pair in [
                (("left", "upper"), ((1,), (2,))), (("right", "lower"), ((1,), (2,))),
                (("right", "upper"), ((0,), (3,))), (("left", "lower"), ((0,), (3,)))]:
            self.assertEqual(unlike_parts(PICTURE_OF_X, hand), [pair])

    def test_what_is_within_is_told_too(self):
        picture = with_content(PICTURE_OF_X, 1, ("within", "f", grid(1, 2)))
        self.assertEqual(unlike_parts(picture, LEFT_UPPER), [((1,), (2,)), ((1, 0), (2,)), ((1, 1), (2,))])
        self.assertEqual(unlike_parts(picture, ("right", "upper")), [((0,), (3,))])
        picture = with_content(PICTURE_OF_X, 2, ("within", "f", ONE))
        self.assertEqual(unlike_parts(picture, ("right", "lower")), [((1,), (2,)), ((1,), (2, 0))])

    def test_by_chance(self):
        seen = 0
        for picture, signs in GROUPS + [(grid(3, 3), oracles.sorted_puttings(grid(3, 3)))]:
            crosses = oracles.all_crosses(picture)
            self.assertEqual(crosses_of(picture), crosses)
            for hand in HANDS:
                orders = {oracles.order_by(sign, hand) for sign in signs}
                self.assertEqual(unlike_parts(picture, hand), oracles.unlike_pairs(orders))
                self.assertIs(one_order(picture), len(orders) == 1)
            self.assertEqual(one_order(picture), len(signs) > 0 and not crosses)
            seen += len(crosses) > 0
        self.assertGreater(seen, 40)


class ByOrder(unittest.TestCase):
    def test_the_example(self):
        self.assertEqual(order_putting(PICTURE_OF_X, LEFT_UPPER, cells(0, 1, 2, 3)), X)
        self.assertEqual(order_putting(PICTURE_OF_X, LEFT_UPPER, cells(0, 2, 1, 3)), Y)
        self.assertEqual(order_putting(PICTURE_OF_X, ("right", "lower"), cells(3, 1, 2, 0)), Y)
        self.assertIsNone(order_putting(PICTURE_OF_X, ("right", "lower"), cells(0, 1, 2, 3)))
        self.assertIsNone(order_putting(PICTURE_OF_X, LEFT_UPPER, cells(0, 3, 1, 2)))

    def test_no_bar_where_a_putting_has_the_order(self):
        for order in (cells(0, 1, 2, 3), cells(0, 2, 1, 3)):
            self.assertIsNone(order_bar(PICTURE_OF_X, LEFT_UPPER, order))
            for thing in [((), WHOLE), PARTED_FRAME, ((), box("0 1/2 0 1")), None]:
                self.assertIs(order_bar_holds(PICTURE_OF_X, LEFT_UPPER, order, thing), False)

    def test_an_order_that_no_putting_has(self):
        bar = ((), WHOLE)
        for order in (cells(0, 3, 1, 2), cells(0, 3, 2, 1), cells(3, 2, 1, 0), cells(1, 2, 0, 3)):
            self.assertEqual(order_bar(PICTURE_OF_X, LEFT_UPPER, order), bar)
            self.assertIs(order_bar_holds(PICTURE_OF_X, LEFT_UPPER, order, bar), True)
            self.assertIsNone(order_putting(PICTURE_OF_X, LEFT_UPPER, order))

    def test_a_bar_within_what_the_order_allows(self):
        order = cells(1, 0, 2, 3)
        bar = ((), box("0 1/2 0 1"))
        self.assertEqual(order_bar(PICTURE_OF_X, LEFT_UPPER, order), bar)
        self.assertIs(order_bar_holds(PICTURE_OF_X, LEFT_UPPER, order, bar), True)
        self.assertIs(order_bar_holds(PICTURE_OF_X, LEFT_UPPER, order, ((), WHOLE)), False)
        self.assertIs(order_bar_holds(PICTURE_OF_X, LEFT_UPPER, order, ((), box("1/2 1 0 1"))), False)
        self.assertIsNone(order_bar(PICTURE_OF_X, ("left", "lower"), cells(1, 0, 3, 2)))

    def test_the_first_of_several_bars(self):
        order = cells(1, 0, 3, 2)
        for told in ("0 1/2 0 1", "1/2 1 0 1"):
            self.assertIs(order_bar_holds(PICTURE_OF_X, LEFT_UPPER, order, ((), box(told))), True)
        self.assertEqual(order_bar(PICTURE_OF_X, LEFT_UPPER, order), ((), box("0 1/2 0 1")))
        self.assertEqual(order_bar(PICTURE_OF_X, LEFT_UPPER, cells(0, 2, 3, 1)), ((), box("0 1 1/2 1")))
        wide = grid(1, 4)
        self.assertEqual(order_bar(wide, LEFT_UPPER, cells(1, 0, 3, 2)), ((), box("0 1/2 0 1")))
        self.assertIs(order_bar_holds(wide, LEFT_UPPER, cells(1, 0, 3, 2), ((), box("1/2 1 0 1"))), True)
        self.assertIs(order_bar_holds(wide, LEFT_UPPER, cells(1, 0, 3, 2), ((), WHOLE)), False)

    def test_a_box_that_no_allowed_cut_makes_is_no_bar(self):
        wide = grid(1, 3)
        order = cells(2, 1, 0)
        self.assertEqual(order_bar(wide, LEFT_UPPER, order), ((), WHOLE))
        self.assertIs(order_bar_holds(wide, LEFT_UPPER, order, ((), box("0 2/3 0 1"))), False)
        self.assertIsNone(order_bar(wide, ("right", "upper"), order))

    def test_the_first_bar_as_numbers_and_not_as_tuples(self):
        ends = ["0", "1/3", "2/5", "1/2", "1"]
        picture = drawn(*[cell(f"{left} {right} 0 1") for left, right in zip(ends, ends[1:])])
        order = cells(1, 0, 3, 2)
        self.assertEqual(order_bar(picture, LEFT_UPPER, order), ((), box("0 2/5 0 1")))
        ends = ["0", "1/3", "5/12", "1/2", "3/4", "1"]
        picture = drawn(*[cell(f"{left} {right} 0 1") for left, right in zip(ends, ends[1:])])
        order = cells(0, 2, 1, 4, 3)
        first, second = ((), box("1/3 1/2 0 1")), ((), box("1/2 1 0 1"))
        self.assertLess(second, first)
        self.assertEqual(order_bar(picture, LEFT_UPPER, order), first)
        self.assertIs(order_bar_holds(picture, LEFT_UPPER, order, second), True)

    def test_the_first_putting_among_several(self):
        self.assertEqual(order_putting(grid(1, 3), LEFT_UPPER, cells(0, 1, 2)),
                         ("across", (1, 3), A, ("across", HALF, B, C)))
        picture = drawn(cell("0 1/3 0 1", A), cell("1/3 1/2 0 1", B), cell("1/2 1 0 1", C))
        self.assertEqual(order_putting(picture, LEFT_UPPER, cells(0, 1, 2)), ("across", (1, 3), A, ("across", (1, 4), B, C)))

    def test_frames(self):
        order = ((0,), (1,), (1, 0), (1, 2), (1, 1), (1, 3), (2,))
        self.assertEqual(order_putting(FRAMED, LEFT_UPPER, order),
                         ("across", (1, 3), A, ("across", HALF, ("within", "f", Y), B)))
        self.assertIsNone(order_bar(FRAMED, LEFT_UPPER, order))
        order = ((0,), (1,), (1, 3), (1, 2), (1, 1), (1, 0), (2,))
        self.assertIsNone(order_putting(FRAMED, LEFT_UPPER, order))
        self.assertEqual(order_bar(FRAMED, LEFT_UPPER, order), ((1,), WHOLE))
        order = ((2,), (1,), (1, 3), (1, 2), (1, 1), (1, 0), (0,))
        self.assertEqual(order_bar(FRAMED, LEFT_UPPER, order), ((), WHOLE))
        self.assertIs(order_bar_holds(FRAMED, LEFT_UPPER, order, ((1,), WHOLE)), True)
        self.assertIs(order_bar_holds(FRAMED, LEFT_UPPER, order, PARTED_FRAME), False)
        self.assertIsNone(order_bar(FRAMED, ("right", "lower"), order))

    def test_an_order_that_parts_a_frame_from_what_is_within_it(self):
        for order in [
                ((1,), (0,), (1, 0), (1, 1), (1, 2), (1, 3), (2,)), ((0,), (1, 0), (1,), (1, 1), (1, 2), (1, 3), (2,)),
                ((0,), (1,), (1, 0), (2,), (1, 1), (1, 2), (1, 3)), ((0,), (1,), (1, 0), (1, 1), (1, 2), (2,), (1, 3)),
                ((0,), (1, 0), (1, 1), (1, 2), (1, 3), (1,), (2,)), ((1, 0), (0,), (1,), (1, 1), (1, 2), (1, 3), (2,)),
                ((0,), (2,), (1, 0), (1, 1), (1, 2), (1, 3), (1,))]:
            for hand in HANDS:
                self.assertIsNone(order_putting(FRAMED, hand, order))
                self.assertEqual(order_bar(FRAMED, hand, order), PARTED_FRAME)
                self.assertIs(order_bar_holds(FRAMED, hand, order, PARTED_FRAME), True)
                for thing in [((), WHOLE), ((1,), WHOLE), ((1,), None), ((0,), None)]:
                    self.assertIs(order_bar_holds(FRAMED, hand, order, thing), False)

    def test_a_frame_within_a_frame(self):
        picture = framed_picture(drawn(cell("0 1/2 0 1", ("within", "g", grid(2, 1))), cell("1/2 1 0 1", B)))
        good = ((0,), (0, 0), (0, 0, 0), (0, 0, 1), (0, 1))
        self.assertIsNone(order_bar(picture, LEFT_UPPER, good))
        for order in [((0,), (0, 0), (0, 0, 0), (0, 1), (0, 0, 1)), ((0,), (0, 1), (0, 0, 0), (0, 0), (0, 0, 1)),
                      ((0, 0), (0, 0, 0), (0, 0, 1), (0,), (0, 1))]:
            self.assertEqual(order_bar(picture, LEFT_UPPER, order), PARTED_FRAME)
        order = ((0,), (0, 0), (0, 0, 1), (0, 0, 0), (0, 1))
        self.assertEqual(order_bar(picture, LEFT_UPPER, order), ((0, 0), WHOLE))
        order = ((0,), (0, 1), (0, 0), (0, 0, 1), (0, 0, 0))
        self.assertEqual(order_bar(picture, LEFT_UPPER, order), ((0,), WHOLE))
        self.assertIs(order_bar_holds(picture, LEFT_UPPER, order, ((0, 0), WHOLE)), True)
        self.assertEqual(order_putting(picture, ("right", "lower"), order),
                         ("within", "f", ("across", HALF, ("within", "g", ("down", HALF, A, B)), B)))

    def test_pictures_without_a_putting(self):
        for hand in HANDS:
            self.assertIsNone(order_putting(WHEEL, hand, cells(0, 1, 2, 3, 4)))
            self.assertEqual(order_bar(WHEEL, hand, cells(4, 1, 2, 3, 0)), ((), WHOLE))
            self.assertIs(order_bar_holds(WHEEL, hand, cells(4, 1, 2, 3, 0), ((), WHOLE)), True)
        order = paths_of(BARRED)
        self.assertIsNone(order_putting(BARRED, LEFT_UPPER, order))
        self.assertEqual(order_bar(BARRED, LEFT_UPPER, order), ((1,), WHOLE))
        self.assertEqual(order_bar(BARRED, LEFT_UPPER, order[1:] + order[:1]), ((), WHOLE))

    def test_all_frames_kept_and_all_others(self):
        picture = drawn(cell("0 1/2 0 1", ("within", "f", grid(2, 1))), cell("1/2 1 0 1/2", A), cell("1/2 1 1/2 1", B))
        kept = oracles.frames_kept(picture)
        paths = paths_of(picture)
        for order in oracles.permutations(paths):
            bar = order_bar(picture, LEFT_UPPER, order)
            self.assertEqual(bar == PARTED_FRAME, order not in kept)
            self.assertEqual(order_bar_holds(picture, LEFT_UPPER, order, PARTED_FRAME), order not in kept)

    def test_all_orders_of_all_hands(self):
        for picture in (PICTURE_OF_X, columns([1], [], parts=2), picture_of(("across", HALF, ("within", "f", A), X[2]))):
            for hand in HANDS:
                first = first_by_order(oracles.sorted_puttings(picture), hand)
                for order in oracles.permutations(paths_of(picture)):
                    self.check(picture, first, hand, order)

    def test_by_chance(self):
        chance = random.Random(32)
        for picture, signs in GROUPS[::2]:
            hand = chance.choice(HANDS)
            first = first_by_order(signs, hand)
            for order in some_orders(chance, picture, hand, signs):
                self.check(picture, first, hand, order)

    def check(self, picture, first, hand, order):
        bars = oracles.order_bars(picture, hand, order)
        self.assertEqual(order_putting(picture, hand, order), first.get(order))
        self.assertEqual(order_bar(picture, hand, order), bars[0] if bars else None)
        self.assertEqual(order not in first, bars != [])
        for path, level in oracles.levels(picture):
            for inner in oracles.all_boxes(level):
                thing = (path, told_box(inner))
                self.assertIs(order_bar_holds(picture, hand, order, thing), thing in bars)
        self.assertIs(order_bar_holds(picture, hand, order, PARTED_FRAME), PARTED_FRAME in bars)

    def test_objects_that_are_no_bar(self):
        for picture, order, bar in [
                (PICTURE_OF_X, cells(0, 3, 1, 2), ((), WHOLE)),
                (FRAMED, ((0,), (1,), (1, 3), (1, 2), (1, 1), (1, 0), (2,)), ((1,), WHOLE)),
                (FRAMED, ((1,), (0,), (1, 0), (1, 1), (1, 2), (1, 3), (2,)), PARTED_FRAME)]:
            self.assertIs(order_bar_holds(picture, LEFT_UPPER, order, bar), True)
            for thing in objects() + with_lists(bar) + with_each(bar, lambda entry: [True, "0", EqualToAll(), Stubborn()]) + [
                    (bar[1], bar[0]), bar + (None,), bar[:1], (None, None), ((True,), WHOLE), ((False,), WHOLE), ((True,), None),
                    (EqualToAll(), None), (EqualToAll(), WHOLE), ((), EqualToAll()), ((), ()), ((), False), ((0,), WHOLE),
                    ((0,), None), ((), Stubborn()), (Stubborn(), None), ((EqualToAll(),), WHOLE), ([], None)]:
                self.assertIs(order_bar_holds(picture, LEFT_UPPER, order, thing), False, thing)


class MainProperty(unittest.TestCase):
    """One order exactly if there is no cross; as many unlike orders as puttings but for brackets."""

    def test_one_order_exactly_without_a_cross(self):
        for picture, signs in GROUPS:
            if signs:
                for hand in HANDS:
                    self.assertEqual(len(orders_of(picture, hand)) == 1, crosses_of(picture) == [])

    def test_as_many_orders_as_puttings_but_for_brackets(self):
        for picture, signs in GROUPS:
            if signs:
                led = all_led(signs[0])
                self.assertEqual(led, signs)
                self.assertEqual(count_orders(picture), len({plain(sign) for sign in led}))

    def test_two_parts_on_a_diagonal_of_a_cross_are_written_in_unlike_orders(self):
        for picture, signs in GROUPS:
            for path, inner in crosses_of(picture) if signs else []:
                for hand in HANDS:
                    told = [pair for pair in unlike_parts(picture, hand) if pair[0][:len(path)] == path]
                    self.assertTrue(told, (picture, path, inner))


class BadArguments(unittest.TestCase):
    def test_bad_sign(self):
        for thing in objects() + with_lists(X) + [row(13), framed(12), PICTURE_OF_X]:
            for hand in (LEFT_UPPER, None):
                with self.assertRaises(BadSign):
                    order_of(thing, hand)

    def test_bad_picture(self):
        for thing in objects() + with_lists(PICTURE_OF_X) + [X, PICTURE_OF_X[::-1], STOCK]:
            for function in (count_orders, crosses_of, one_order):
                with self.assertRaises(BadPicture):
                    function(thing)
            for hand in (LEFT_UPPER, None):
                for function in (orders_of, unlike_parts):
                    with self.assertRaises(BadPicture):
                        function(thing, hand)
                for function in (order_putting, order_bar):
                    with self.assertRaises(BadPicture):
                        function(thing, hand, cells(0, 1, 2, 3))
                with self.assertRaises(BadPicture):
                    order_bar_holds(thing, hand, None, None)

    def test_bad_hand(self):
        for hand in NO_HANDS:
            with self.assertRaises(BadHand):
                order_of(X, hand)
            for picture in (PICTURE_OF_X, WHEEL):
                for function in (orders_of, unlike_parts):
                    with self.assertRaises(BadHand):
                        function(picture, hand)
                for order in (paths_of(picture), None):
                    for function in (order_putting, order_bar):
                        with self.assertRaises(BadHand):
                            function(picture, hand, order)
                    with self.assertRaises(BadHand):
                        order_bar_holds(picture, hand, order, None)

    def test_bad_order(self):
        for picture in (ONE, PICTURE_OF_X, FRAMED, WHEEL, BARRED):
            for order in no_orders(picture):
                for function in (order_putting, order_bar):
                    with self.assertRaises(BadOrder, msg=order):
                        function(picture, LEFT_UPPER, order)
                with self.assertRaises(BadOrder):
                    order_bar_holds(picture, LEFT_UPPER, order, ((), WHOLE))


if __name__ == "__main__":
    unittest.main()
