"""The whole program on one picture after the other: the first and the third promise."""

import random
import unittest

from brushedsigns.books import asked_of, books_apart, cleaned, written, written_putting
from brushedsigns.cuts import bar_of, boxes_of, count_puttings, first_putting, is_putting, puttings
from brushedsigns.desk import Desk
from brushedsigns.finding import exchanged, found_in, least_unlike, parts_in, put_in, signs_with, taken_out
from brushedsigns.learning import choice_fault, hands_for, learned
from brushedsigns.moving import all_led, moves_between, moves_lead, plain
from brushedsigns.orders import (
    count_orders, crosses_of, one_order, order_bar, order_of, order_putting, orders_of, unlike_parts)
from brushedsigns.pens import least_lifts, lift_sum, lifts_of
from brushedsigns.pictures import content_at, mirrored, paths_of, picture_of, turned_over, turned_side
from brushedsigns.session import Session
from brushedsigns.signs import is_sign, read_sign, size_of, write_sign
from brushedsigns.stocks import sorts_of
from brushedsigns.strokes import count_strokes, found_by, sorts_row, strokes_of, telling
from brushedsigns.values import is_less
from tests.book_oracles import small_pictures
from tests.drawn import FRAMED, PICTURE_OF_X, WHEEL, framed_picture, grid
from tests.oracles import HANDS, WHOLE
from tests.shelf import MIXED, ONE_KIND, STOCKS, Z, book_by_chance, put_pictures
from tests.things import HALF, X

PICTURES = put_pictures(60, 111, most=120) + [PICTURE_OF_X, FRAMED, framed_picture(FRAMED)]


class Together(unittest.TestCase):
    """What the one part of the program tells fits what the others tell."""

    def test_signs_and_pictures(self):
        for picture in PICTURES:
            sign = first_putting(picture)
            self.assertTrue(is_sign(sign) and is_putting(picture, sign))
            self.assertEqual(read_sign(write_sign(sign)), sign)
            self.assertEqual(picture_of(sign), picture)
            self.assertEqual(size_of(sign), len(paths_of(picture)))
            self.assertEqual(puttings(picture)[0], sign)
            self.assertIsNone(bar_of(picture))
            parts = [path for path in paths_of(picture) if content_at(picture, path)[0] == "part"]
            self.assertEqual(sum(number for _, number in parts_in(picture)), len(parts))

    def test_books_and_orders(self):
        chance = random.Random(112)
        for picture in PICTURES:
            stock, book = chance.choice(STOCKS), book_by_chance(chance)
            order, sign = written(stock, book, picture), written_putting(stock, book, picture)
            self.assertEqual(order_of(sign, book[0]), order)
            self.assertIn(order, orders_of(picture, book[0]))
            self.assertIsNone(order_bar(picture, book[0], order))
            self.assertEqual(order_of(order_putting(picture, book[0], order), book[0]), order)
            asked = [(path, box) for path, box, _, _ in asked_of(stock, book, picture)]
            self.assertEqual(sorted(set(asked)), sorted(asked))
            self.assertTrue(all(place in crosses_of(picture) for place in asked))

    def test_books_and_samples(self):
        chance = random.Random(113)
        for _ in range(40):
            stock, book = chance.choice(STOCKS), book_by_chance(chance)
            samples = tuple((picture, written(stock, book, picture)) for picture in chance.sample(PICTURES, 4))
            self.assertIsNone(choice_fault(stock, samples, book[0]))
            self.assertIn(book[0], hands_for(stock, samples))
            other = learned(stock, samples, book[0])
            for picture, order in samples:
                self.assertEqual(written(stock, other, picture), order)
                self.assertEqual(asked_of(stock, other, picture), asked_of(stock, book, picture))

    def test_strokes_and_pens(self):
        chance = random.Random(114)
        for picture in PICTURES:
            stock, book = chance.choice(STOCKS), book_by_chance(chance)
            strokes = strokes_of(stock, book, picture)
            self.assertEqual(len(strokes), count_strokes(stock, picture))
            self.assertEqual(len(lifts_of(stock, book, picture)), len(strokes) - 1)
            row = sorts_row(stock, book, picture)
            self.assertEqual(row, tuple(
                sorts_of(stock, content_at(picture, path)[1])[index] for path, index in strokes))
            signs = (("one", picture),)
            self.assertEqual(found_by(stock, book, signs, row), ["one"])
            self.assertEqual(telling(stock, book, signs + (("two", picture),)), [None, None])
            least, order = least_lifts(stock, picture, book[0])
            self.assertFalse(is_less(lift_sum(stock, book, picture), least))
            self.assertIn(order, orders_of(picture, book[0]))

    def test_pictures_within_pictures(self):
        for picture in PICTURES:
            for box in boxes_of(picture):
                inner = taken_out(picture, box)
                self.assertIn(((), box), found_in(picture, inner))
                self.assertEqual(put_in(picture, box, inner), picture)
                self.assertEqual(exchanged(picture, inner, inner), picture)
                if count_puttings(inner):
                    self.assertEqual(signs_with(MIXED, (("one", picture),), inner), ["one"])
            self.assertIsNone(least_unlike(picture, picture))

    def test_sessions_and_the_desk(self):
        chance = random.Random(115)
        for picture in PICTURES:
            book = book_by_chance(chance)
            session = Session(MIXED, book, picture)
            self.assertEqual(session.order(), written(MIXED, book, picture))
            self.assertEqual(session.choices(), count_orders(picture))
            for word, turn in [("mirrored", mirrored), ("turned_over", turned_over), ("turned_side", turned_side)]:
                session.turn(word)
                self.assertEqual(session.picture(), turn(picture))
                session.undo()
        desk = Desk()
        self.assertEqual(desk.say("sign"), write_sign(X))
        self.assertEqual(desk.session().picture(), PICTURE_OF_X)
        self.assertEqual(desk.session().order(), written(Z, desk.session().book(), PICTURE_OF_X))


class MainProperty(unittest.TestCase):
    def test_all_puttings_are_led_one_into_another(self):
        for picture in PICTURES:
            some = puttings(picture)
            for sign in some[:3] + some[-2:]:
                self.assertEqual(all_led(sign), some)
                self.assertTrue(moves_lead(some[0], sign, moves_between(some[0], sign)))
                self.assertTrue(moves_lead(sign, some[0], moves_between(sign, some[0])))

    def test_one_order_exactly_without_a_cross(self):
        for picture in PICTURES + [WHEEL]:
            for hand in HANDS:
                orders = orders_of(picture, hand)
                self.assertEqual(len(orders), count_orders(picture))
                self.assertEqual(len(orders) == 1, one_order(picture))
                if orders:
                    self.assertEqual(len(orders) == 1, crosses_of(picture) == [])
                    self.assertEqual(len(orders) == 1, unlike_parts(picture, hand) == [])

    def test_orders_are_as_many_as_puttings_but_for_brackets(self):
        for picture in PICTURES:
            self.assertEqual(count_orders(picture), len({plain(sign) for sign in puttings(picture)}))

    def test_books_that_write_small_pictures_alike_write_all_alike(self):
        chance = random.Random(116)
        small = (MIXED[0][2:], MIXED[1][:1])
        alike = 0
        for _ in range(60):
            book = book_by_chance(chance, 3)
            other = chance.choice([book_by_chance(chance, 2), cleaned(small, book), book[:1] + book_by_chance(chance, 3)[1:]])
            same = all(written(small, book, picture) == written(small, other, picture) for picture in small_pictures(small))
            self.assertEqual(same, books_apart(small, book, other) is None)
            if same:
                alike += 1
                for picture in PICTURES:
                    told = renamed(picture)
                    self.assertEqual(written(small, book, told), written(small, other, told))
        self.assertGreater(alike, 10)

    def test_books_apart_write_some_picture_of_at_most_four_cells_unlike(self):
        chance = random.Random(117)
        for _ in range(60):
            stock = chance.choice([MIXED, ONE_KIND])
            book, other = book_by_chance(chance), book_by_chance(chance)
            picture = books_apart(stock, book, other)
            if picture is not None:
                self.assertIn(len(picture), (2, 4))
                self.assertNotEqual(written(stock, book, picture), written(stock, other, picture))


def renamed(picture):
    """The picture with the parts c and d and the frame g alone."""
    return tuple(
        entry[:4] + (("part", "cd"[ord(entry[4][1]) % 2]) if entry[4][0] == "part" else ("within", "g", renamed(entry[4][2])),)
        for entry in picture)


class Twice(unittest.TestCase):
    def test_equal_calls_return_equal_results_whatever_came_between(self):
        picture = grid(2, 3)
        first = (orders_of(picture, HANDS[0]), puttings(picture), count_orders(picture), boxes_of(picture))
        orders_of(picture, HANDS[0]).clear()
        puttings(picture).append(None)
        boxes_of(picture).reverse()
        session = Session(Z, (("left", "upper"), (), "down"), PICTURE_OF_X)
        session.cut((0,), "across", HALF, "d")
        found_in(picture, picture_of(("part", "a"))).append(((), WHOLE))
        self.assertEqual((orders_of(picture, HANDS[0]), puttings(picture), count_orders(picture), boxes_of(picture)), first)


if __name__ == "__main__":
    unittest.main()
