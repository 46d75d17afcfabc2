import random
import unittest
from fractions import Fraction

from brushedsigns.errors import BadBook, BadHand, BadPath, BadPicture, BadStock, BadStroke, NoPutting
from brushedsigns.orders import orders_of
from brushedsigns.pens import least_lifts, lift_sum, lifts_of, pen_way, points_of
from brushedsigns.pictures import paths_of, picture_of
from brushedsigns.values import is_fraction
from tests import book_oracles
from tests.drawn import BARRED, FRAMED, LEFT_UPPER, ONE, PICTURE_OF_X, WHEEL, cell, drawn, framed_picture, grid
from tests.oracles import HANDS, WHOLE, told
from tests.shelf import ACROSS, DOWN_FIRST, MIXED, STOCKS, Z, book_by_chance, put_pictures
from tests.test_books import no_books
from tests.test_orders import NO_HANDS, cells
from tests.test_pictures import no_paths
from tests.things import A, B, EqualToAll, HALF, LINE, Stubborn, X, objects, with_lists

PICTURES = put_pictures(60, 81)
WITH_E = (Z[0] + (("e", "e", (LINE,)),), Z[1])


def points(text):
    """Points told as "0,1/2 1,1/2"."""
    return tuple(tuple(told(Fraction(side)) for side in point.split(",")) for point in text.split(" "))


def told_points(along):
    return tuple((told(across), told(down)) for across, down in along)


def lines_stock(**lines):
    """A stock in which each part has one stroke through the points that are told."""
    return (tuple((name, name, (("line", points(line)),)) for name, line in lines.items()), ())


class PointsOf(unittest.TestCase):
    def test_a_part_alone(self):
        self.assertEqual(points_of(Z, ONE, (0,), 0), LINE[1])
        for index, stroke in enumerate(MIXED[0][2][2]):
            self.assertEqual(points_of(MIXED, (WHOLE + (("part", "d"),),), (0,), index), stroke[1])

    def test_parts_in_cells(self):
        self.assertEqual(points_of(Z, PICTURE_OF_X, (0,), 0), points("0,1/4 1/2,1/4"))
        self.assertEqual(points_of(Z, PICTURE_OF_X, (1,), 0), points("1/4,3/4 1/4,1"))
        self.assertEqual(points_of(Z, PICTURE_OF_X, (2,), 0), points("1/2,1/4 1,1/4"))
        self.assertEqual(points_of(Z, PICTURE_OF_X, (3,), 0), points("3/4,3/4 3/4,1"))

    def test_a_frame_in_its_own_cell(self):
        self.assertEqual(points_of(Z, framed_picture(ONE), (0,), 0), points("0,0 0,1"))
        self.assertEqual(points_of(Z, framed_picture(ONE), (0,), 1), points("0,1 1,1"))
        self.assertEqual(points_of(Z, FRAMED, (1,), 0), points("1/3,0 1/3,1"))
        self.assertEqual(points_of(Z, FRAMED, (1,), 1), points("1/3,1 2/3,1"))

    def test_what_is_within_a_frame_in_its_hole(self):
        self.assertEqual(points_of(Z, framed_picture(ONE), (0, 0), 0), points("1/4,1/2 3/4,1/2"))
        self.assertEqual(points_of(Z, framed_picture(PICTURE_OF_X), (0, 3), 0), points("5/8,5/8 5/8,3/4"))
        # The hole in the middle cell of FRAMED reaches from 5/12 to 7/12 and from 1/4 to 3/4.
        self.assertEqual(points_of(Z, FRAMED, (1, 0), 0), points("5/12,3/8 1/2,3/8"))
        self.assertEqual(points_of(Z, FRAMED, (1, 3), 0), points("13/24,5/8 13/24,3/4"))

    def test_frames_within_frames(self):
        picture = framed_picture(framed_picture(ONE))
        self.assertEqual(points_of(Z, picture, (0, 0), 0), points("1/4,1/4 1/4,3/4"))
        self.assertEqual(points_of(Z, picture, (0, 0, 0), 0), points("3/8,1/2 5/8,1/2"))
        picture = picture_of(("across", HALF, ("within", "g", ("down", HALF, ("within", "f", A), A)), A))
        # The hole of g in the left half: from 1/14 to 1/3 and from 2/5 to 8/9, the frame f in its upper half.
        self.assertEqual(points_of(MIXED, picture, (0, 0), 1), points("17/84,47/90 17/84,29/45"))
        self.assertEqual(points_of(MIXED, picture, (0, 0, 0), 0), points("1/14,47/90 1/3,47/90"))

    def test_bottoms_of_whatever_size(self):
        hole = ((1, 9973), (9966, 9967), (1, 9949), (9940, 9941))
        stock = (((("a", "a", (("line", (((1, 9931), (1, 9929)), ((1, 1), (1, 1)))),))),), (("f", "f", (LINE,), hole, 0),))
        picture = (WHOLE + (("part", "a"),),)
        for _ in range(11):
            picture = framed_picture(picture)
        for deep in range(1, 13):
            path = (0,) * deep
            found = points_of(stock, picture, path, 0)
            self.assertEqual(found, told_points(book_oracles.points(stock, picture, path, 0)))
            self.assertTrue(all(is_fraction(side) for point in found for side in point))
        self.assertGreater(points_of(stock, picture, (0,) * 12, 0)[0][0][1], 10 ** 40)
        self.assertTrue(is_fraction(pen_way(stock, picture)))

    def test_by_chance(self):
        for stock in STOCKS:
            for picture in PICTURES[:30]:
                for path in paths_of(picture):
                    many = len(book_oracles.entries(stock)[name_at(picture, path)][2])
                    for index in range(many):
                        self.assertEqual(points_of(stock, picture, path, index),
                                         told_points(book_oracles.points(stock, picture, path, index)))
                    with self.assertRaises(BadStroke):
                        points_of(stock, picture, path, many)

    def test_without_a_putting(self):
        self.assertEqual(points_of(WITH_E, WHEEL, (0,), 0), points("1/6,2/3 1/6,1"))
        self.assertEqual(points_of(WITH_E, WHEEL, (1,), 0), points("0,1/6 2/3,1/6"))
        # Of a and c two thirds each, of b and d one third each, of e one third.
        self.assertEqual(pen_way(WITH_E, WHEEL), (7, 3))

    def test_bad_stroke(self):
        others = [thing for thing in objects() if repr(thing) != "0"]
        for thing in others + [True, False, -1, 1, 2, 8, 10 ** 29, "0", (0,), [0], EqualToAll(), Stubborn()]:
            with self.assertRaises(BadStroke, msg=repr(thing)):
                points_of(Z, PICTURE_OF_X, (0,), thing)
        for thing in (True, False, -1, 2):
            with self.assertRaises(BadStroke):
                points_of(Z, FRAMED, (1,), thing)

    def test_bad_path_and_picture_and_stock(self):
        for picture in (PICTURE_OF_X, FRAMED):
            for path in no_paths(picture) + [()]:
                for index in (0, None):
                    with self.assertRaises(BadPath):
                        points_of(Z, picture, path, index)
        for thing in objects() + with_lists(PICTURE_OF_X) + [WHEEL, X]:
            with self.assertRaises(BadPicture):
                points_of(Z, thing, None, None)
        for thing in objects():
            with self.assertRaises(BadStock):
                points_of(thing, None, None, None)


def name_at(picture, path):
    for step in path[:-1]:
        picture = picture[step][4][2]
    return picture[path[-1]][4][1]


class Ways(unittest.TestCase):
    def test_ways_that_turn(self):
        stock = lines_stock(a="0,0 1,1", b="0,0 1/2,0 0,0", c="1/2,1/3 1/4,2/3 1,0", d="1,1 0,1")
        for name, wanted in [("a", 2), ("b", 1), ("c", Fraction(1, 4) + Fraction(1, 3) + Fraction(3, 4) + Fraction(2, 3)), ("d", 1)]:
            self.assertEqual(pen_way(stock, (WHOLE + (("part", name),),)), told(Fraction(wanted)))

    def test_by_the_whole_box(self):
        self.assertEqual(pen_way(Z, PICTURE_OF_X), (3, 2))
        self.assertEqual(pen_way(Z, framed_picture(ONE)), (5, 2))
        stock = lines_stock(a="0,0 1,1")
        self.assertEqual(pen_way(stock, drawn(cell("0 1/3 0 1"), cell("1/3 1 0 1"))), (3, 1))

    def test_a_point_that_does_not_move(self):
        self.assertEqual(pen_way(lines_stock(a="1/2,1/2 1/2,1/2"), ONE), (0, 1))

    def test_by_chance(self):
        for stock in STOCKS:
            for picture in PICTURES:
                self.assertEqual(pen_way(stock, picture), told(book_oracles.way(stock, picture, paths_of(picture))))

    def test_errors(self):
        for thing in objects() + with_lists(PICTURE_OF_X) + [WHEEL, X, framed_picture(ONE, "g")]:
            with self.assertRaises(BadPicture):
                pen_way(Z, thing)
        for thing in objects():
            with self.assertRaises(BadStock):
                pen_way(thing, None)


class Lifts(unittest.TestCase):
    def test_x(self):
        # From (1/2, 1/4) to (1/4, 3/4), from (1/4, 1) to (1/2, 1/4), from (1, 1/4) to (3/4, 3/4).
        self.assertEqual(lifts_of(Z, ACROSS, PICTURE_OF_X), [(3, 4), (1, 1), (3, 4)])
        self.assertEqual(lift_sum(Z, ACROSS, PICTURE_OF_X), (5, 2))
        self.assertEqual(lifts_of(Z, DOWN_FIRST, PICTURE_OF_X), [(0, 1), (5, 4), (3, 4)])
        self.assertEqual(lift_sum(Z, DOWN_FIRST, PICTURE_OF_X), (2, 1))

    def test_one_fewer_than_strokes(self):
        self.assertEqual(len(lifts_of(Z, ACROSS, FRAMED)), 7)
        self.assertEqual(len(lifts_of(Z, ACROSS, grid_of_four(3, 4))), 11)

    def test_one_stroke_alone(self):
        self.assertEqual(lifts_of(Z, ACROSS, ONE), [])
        self.assertEqual(lift_sum(Z, ACROSS, ONE), (0, 1))
        self.assertEqual(least_lifts(Z, ONE, LEFT_UPPER), ((0, 1), cells(0)))

    def test_a_frame_whose_last_stroke_comes_behind(self):
        # (0, 1) to (1/4, 1/2), then (3/4, 1/2) to (0, 1).
        self.assertEqual(lifts_of(Z, ACROSS, framed_picture(ONE)), [(3, 4), (5, 4)])
        self.assertEqual(lift_sum(Z, ACROSS, framed_picture(ONE)), (2, 1))

    def test_by_chance(self):
        chance = random.Random(82)
        for picture in PICTURES:
            stock, book = chance.choice(STOCKS), book_by_chance(chance)
            wanted = book_oracles.lifts(stock, picture, book_oracles.write(stock, book, picture)[0])
            self.assertEqual(lifts_of(stock, book, picture), [told(lift) for lift in wanted])
            self.assertEqual(lift_sum(stock, book, picture), told(sum(wanted, Fraction(0))))

    def test_errors(self):
        for function in (lifts_of, lift_sum):
            for picture in (WHEEL, BARRED):
                with self.assertRaises(NoPutting):
                    function(WITH_E, ACROSS, picture)
                with self.assertRaises(BadPicture):
                    function(Z, ACROSS, picture)
            for thing in objects() + with_lists(PICTURE_OF_X):
                with self.assertRaises(BadPicture):
                    function(Z, ACROSS, thing)
            for thing in no_books():
                with self.assertRaises(BadBook):
                    function(Z, thing, None)
            for thing in objects():
                with self.assertRaises(BadStock):
                    function(thing, None, None)


class LeastLifts(unittest.TestCase):
    def check(self, stock, picture, hand):
        sums = {}
        for order in book_oracles.all_orders(picture, hand):
            sums[order] = sum(book_oracles.lifts(stock, picture, order), Fraction(0))
        least = min(sums.values())
        first = min(order for order in sums if sums[order] == least)
        self.assertEqual(least_lifts(stock, picture, hand), (told(least), first))
        return list(sums.values()).count(least), len(sums)

    def test_x(self):
        self.assertEqual(least_lifts(Z, PICTURE_OF_X, LEFT_UPPER), ((2, 1), cells(0, 2, 1, 3)))
        for hand in HANDS:
            self.check(Z, PICTURE_OF_X, hand)

    def test_the_first_of_several_with_the_same_least_sum(self):
        stock = lines_stock(a="1/2,1/2 1/2,1/2", b="1/2,1/2 1/2,1/2", c="1/2,1/2 1/2,1/2", d="1/2,1/2 1/2,1/2")
        self.assertEqual(self.check(stock, PICTURE_OF_X, LEFT_UPPER), (2, 2))
        self.assertEqual(least_lifts(stock, PICTURE_OF_X, LEFT_UPPER), ((2, 1), cells(0, 1, 2, 3)))
        self.assertEqual(least_lifts(stock, PICTURE_OF_X, ("right", "lower")), ((2, 1), cells(3, 1, 2, 0)))

    def test_an_order_that_no_book_writes(self):
        # The least sum is that of a cut which no book takes first.
        picture = picture_of(("across", (1, 3), ("down", HALF, A, B), X))
        found = {least_lifts(stock_of(seed), picture, LEFT_UPPER)[1] for seed in range(40)}
        self.assertIn(cells(0, 2, 1, 3, 4, 5), found)
        self.assertEqual(found, set(orders_of(picture, LEFT_UPPER)))
        for seed in range(40):
            self.check(stock_of(seed), picture, LEFT_UPPER)

    def test_by_chance(self):
        chance = random.Random(83)
        several = 0
        for picture in PICTURES[:30] + [grid_of_four(3, 3), grid_of_four(2, 6), grid_of_four(3, 4), FRAMED]:
            same, _ = self.check(chance.choice(STOCKS), picture, chance.choice(HANDS))
            several += same > 1
        self.assertGreater(several, 0)

    def test_errors(self):
        for picture in (WHEEL, BARRED, framed_picture(WHEEL)):
            for hand in (LEFT_UPPER, None):
                with self.assertRaises(NoPutting):
                    least_lifts(WITH_E, picture, hand)
                with self.assertRaises(BadPicture):
                    least_lifts(Z, picture, hand)
        for hand in NO_HANDS:
            with self.assertRaises(BadHand):
                least_lifts(Z, PICTURE_OF_X, hand)
        for thing in objects():
            with self.assertRaises(BadPicture):
                least_lifts(Z, thing, None)
            with self.assertRaises(BadStock):
                least_lifts(thing, None, None)


def grid_of_four(rows, many):
    """A grid whose parts are named a to d alone."""
    return tuple(entry[:4] + (("part", "abcd"[at % 4]),) for at, entry in enumerate(grid(rows, many)))


def stock_of(seed):
    chance = random.Random(seed)
    ends = [f"{chance.randint(0, 4)}/4,{chance.randint(0, 4)}/4 {chance.randint(0, 4)}/4,{chance.randint(0, 4)}/4"
            for _ in range(4)]
    return lines_stock(a=ends[0], b=ends[1], c=ends[2], d=ends[3])


if __name__ == "__main__":
    unittest.main()
