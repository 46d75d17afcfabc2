import random
import unittest
from itertools import product

from brushedsigns.books import (
    asked_of, books_apart, cleaned, mirrored_book, side_book, turned_over_book, word_at, written, written_putting)
from brushedsigns.cuts import is_putting
from brushedsigns.errors import BadBook, BadKinds, BadPicture, BadStock, NoPutting, TooMany
from brushedsigns.orders import count_orders, order_of, orders_of
from brushedsigns.pictures import mirrored, moved_path, picture_of, turned_over, turned_side
from tests import book_oracles
from tests.drawn import (
    BARRED, FRAMED, LEFT_UPPER, ONE, PICTURE_OF_X, WHEEL, box, columns, framed_picture, grid, with_content)
from tests.oracles import HANDS, WHOLE
from tests.shelf import ACROSS, DOWN_FIRST, MIXED, ONE_KIND, STOCKS, Z, book_by_chance, put_pictures, rule_by_chance
from tests.test_orders import NO_HANDS
from tests.things import A, B, EqualToAll, HALF, STOCK, Stubborn, X, objects, with_each, with_lists

ANY = (None, None, None, None)
RULE = ("a", None, "c", None, "down")
BOOK = (LEFT_UPPER, (RULE, ("b", "b", "b", "b", "across")), "across")
Y = ("down", HALF, ("across", HALF, A, ("part", "c")), ("across", HALF, B, ("part", "d")))
NO_WORDS = ["", "Across", "left", "acrossdown", b"across", None, True, 0, ["across"], ("across",), EqualToAll(), Stubborn()]
NO_RULES = objects() + with_lists(RULE) + [
    RULE[:4], RULE + ("across",), ANY, RULE[4:] + RULE[:4], ("a", "b", "c", "d", None), ("a", "b", "c", "d", "left"),
    ("", "b", "c", "d", "across"), ("A", "b", "c", "d", "across"), ("abcdefghi", "b", "c", "d", "across"),
    (True, "b", "c", "d", "across"), (False,) + RULE[1:], (("a",), "b", "c", "d", "across"), ("across", "a", "b", "c", "d")
] + with_each(RULE, lambda entry: [True, 0, "1a", EqualToAll(), Stubborn()])
PICTURES = put_pictures(120, 51)


def of_rules(*rules, word="across", hand=LEFT_UPPER):
    return (hand, rules, word)


def no_books():
    found = objects() + with_lists(BOOK) + [BOOK[:2], BOOK + ("across",), (LEFT_UPPER, RULE, "across"), STOCK, Z]
    found += [(hand, (RULE,), "across") for hand in NO_HANDS]
    found += [(LEFT_UPPER, (RULE,), word) for word in NO_WORDS]
    found += [(LEFT_UPPER, (RULE, rule), "across") for rule in NO_RULES]
    found += [(LEFT_UPPER, rules, "across") for rules in ([], [RULE], None, RULE, (RULE,) * 31, EqualToAll(), Stubborn())]
    return found


class WordAt(unittest.TestCase):
    def test_the_word_of_the_first_rule_that_fits(self):
        self.assertEqual(word_at(Z, BOOK, ("a", "b", "c", "d")), "down")
        self.assertEqual(word_at(Z, BOOK, ("a", "c", "c", "c")), "down")
        self.assertEqual(word_at(Z, BOOK, ("b", "b", "b", "b")), "across")
        both = of_rules(("a", None, None, None, "down"), ("a", "b", "c", "d", "across"))
        self.assertEqual(word_at(Z, both, ("a", "b", "c", "d")), "down")
        self.assertEqual(word_at(Z, of_rules(*both[1][::-1]), ("a", "b", "c", "d")), "across")

    def test_the_word_of_the_book_where_none_fits(self):
        for word in ("across", "down"):
            for kinds in product("abz", repeat=4):
                self.assertEqual(word_at(Z, of_rules(word=word), kinds), word)
        self.assertEqual(word_at(Z, of_rules(RULE), ("c", "b", "a", "d")), "across")

    def test_none_in_each_of_the_four_places(self):
        for corner in range(4):
            rule = tuple(None if at == corner else "a" for at in range(4)) + ("down",)
            for kinds in product("ab", repeat=4):
                fits = all(kind == "a" for at, kind in enumerate(kinds) if at != corner)
                self.assertEqual(word_at(Z, of_rules(rule), kinds), "down" if fits else "across")
        self.assertEqual(word_at(Z, of_rules(ANY + ("down",)), ("x", "y", "z", "z9")), "down")

    def test_each_corner_by_itself(self):
        for corner in range(4):
            rule = tuple("a" if at == corner else None for at in range(4)) + ("down",)
            for kinds in product("ab", repeat=4):
                self.assertEqual(word_at(Z, of_rules(rule), kinds), "down" if kinds[corner] == "a" else "across")

    def test_kinds_that_are_none_of_the_stock(self):
        book = of_rules(("zz", None, None, None, "down"))
        self.assertEqual(word_at(Z, book, ("zz", "zz", "zz", "zz")), "down")

    def test_thirty_rules(self):
        rules = tuple((f"k{at}", None, None, None, "down" if at % 2 else "across") for at in range(30))
        book = of_rules(*rules, word="down")
        for at in range(30):
            self.assertEqual(word_at(Z, book, (f"k{at}", "a", "a", "a")), rules[at][4])
        self.assertEqual(word_at(Z, book, ("k30", "a", "a", "a")), "down")
        with self.assertRaises(BadBook):
            word_at(Z, of_rules(*rules, rules[0]), ("a", "a", "a", "a"))

    def test_by_chance(self):
        chance = random.Random(52)
        for _ in range(300):
            book = book_by_chance(chance, 30)
            kinds = tuple(chance.choice(["k", "m", "n", "o"]) for _ in range(4))
            self.assertEqual(word_at(MIXED, book, kinds), book_oracles.says(book, kinds))

    def test_bad_book(self):
        for thing in no_books():
            for kinds in (("a", "b", "c", "d"), None):
                with self.assertRaises(BadBook, msg=repr(thing)):
                    word_at(Z, thing, kinds)

    def test_bad_kinds(self):
        kinds = ("a", "b", "c", "d")
        for thing in objects() + with_lists(kinds) + [
                kinds[:3], kinds + ("e",), ("a", "b", "c", None), ANY, (None, "b", "c", "d"), ("a", "b", "c", "D"), "abcd",
                ("a", "b", "c", ""), ("a", "b", "c", True), ("a", "b", "c", "abcdefghi"), ("a", "b", "c", ("d",)),
                ("a", "b", "c", EqualToAll()), ("a", "b", "c", Stubborn()), RULE, ("1", "b", "c", "d")]:
            with self.assertRaises(BadKinds, msg=repr(thing)):
                word_at(Z, BOOK, thing)


class Written(unittest.TestCase):
    def check(self, stock, book, picture):
        order, sign, asked = book_oracles.write(stock, book, picture)
        self.assertEqual(written(stock, book, picture), order)
        self.assertEqual(written_putting(stock, book, picture), sign)
        self.assertEqual(asked_of(stock, book, picture), asked)

    def test_x_by_each_of_the_four_hands(self):
        for hand, across, down in [
                (("left", "upper"), (0, 1, 2, 3), (0, 2, 1, 3)), (("right", "upper"), (2, 3, 0, 1), (2, 0, 3, 1)),
                (("left", "lower"), (1, 0, 3, 2), (1, 3, 0, 2)), (("right", "lower"), (3, 2, 1, 0), (3, 1, 2, 0))]:
            for word, sign, sequence in [("across", X, across), ("down", Y, down)]:
                book = of_rules(word=word, hand=hand)
                self.assertEqual(written(Z, book, PICTURE_OF_X), tuple((index,) for index in sequence))
                self.assertEqual(written_putting(Z, book, PICTURE_OF_X), sign)
                self.assertEqual(asked_of(Z, book, PICTURE_OF_X), [((), WHOLE, ("a", "c", "b", "d"), word)])

    def test_the_first_cut_as_the_hand_goes(self):
        for hand, first in [("left", "1/3"), ("right", "2/3")]:
            sign = written_putting(Z, of_rules(hand=(hand, "upper")), columns([], [], []))
            self.assertEqual(sign[:2], ("across", box(first + " 0 0 0")[0]))
        for hand, first in [("upper", "1/3"), ("lower", "2/3")]:
            sign = written_putting(Z, of_rules(hand=("left", hand)), columns([2, 4]))
            self.assertEqual(sign[:2], ("down", box(first + " 0 0 0")[0]))

    def test_boxes_with_cuts_the_one_way_alone_are_not_asked(self):
        for picture in (ONE, columns([], [], [], []), columns([1, 2, 3]), columns([2], [], []), framed_picture(columns([1]))):
            for book in (ACROSS, DOWN_FIRST):
                self.assertEqual(asked_of(Z, book, picture), [])
                self.assertEqual([written(Z, book, picture)], orders_of(picture, LEFT_UPPER))

    def test_a_cross_again(self):
        picture = picture_of(("across", HALF, X, X))
        asked = asked_of(Z, ACROSS, picture)
        self.assertEqual([entry[1] for entry in asked], [WHOLE, box("1/4 1 0 1"), box("1/2 1 0 1")])
        self.assertEqual([entry[2] for entry in asked], [("a", "c", "b", "d"), ("c", "c", "d", "d"), ("a", "c", "b", "d")])
        asked = asked_of(Z, of_rules(hand=("right", "upper")), picture)
        self.assertEqual([entry[1] for entry in asked], [WHOLE, box("0 3/4 0 1"), box("0 1/2 0 1")])
        self.assertEqual([entry[1] for entry in asked_of(Z, DOWN_FIRST, picture)], [WHOLE])

    def test_crosses_within_crosses(self):
        # The cell at the left above is a cross itself.
        picture = picture_of(("across", HALF, ("down", HALF, X, B), ("down", HALF, A, ("part", "d"))))
        asked = asked_of(Z, of_rules(hand=("left", "lower")), picture)
        self.assertEqual([(entry[1], entry[2]) for entry in asked], [
            (WHOLE, ("a", "a", "b", "d")), (box("0 1/2 0 1/2"), ("a", "c", "b", "d"))])
        # From above the cut through the cross is taken first, and no cross is left of it.
        self.assertEqual([entry[1] for entry in asked_of(Z, ACROSS, picture)], [WHOLE])
        asked = asked_of(Z, of_rules(("a", "a", None, None, "down"), hand=("right", "lower")), picture)
        self.assertEqual([(entry[1], entry[3]) for entry in asked], [
            (WHOLE, "down"), (box("0 1/2 0 1/2"), "across")])

    def test_the_corners_of_a_box_of_many_cells(self):
        picture = grid(3, 4)
        stock = ((tuple((name, "k" + name, Z[0][0][2]) for name in "abcdefghijkl")), ())
        self.assertEqual(asked_of(stock, DOWN_FIRST, picture)[0], ((), WHOLE, ("ka", "kj", "kc", "kl"), "down"))
        self.assertEqual(asked_of(stock, DOWN_FIRST, picture)[1], ((), box("0 1 1/3 1"), ("kb", "kk", "kc", "kl"), "down"))

    def test_frames(self):
        self.assertEqual(written(Z, ACROSS, FRAMED), ((0,), (1,), (1, 0), (1, 1), (1, 2), (1, 3), (2,)))
        self.assertEqual(written(Z, DOWN_FIRST, FRAMED), ((0,), (1,), (1, 0), (1, 2), (1, 1), (1, 3), (2,)))
        self.assertEqual(asked_of(Z, DOWN_FIRST, FRAMED), [((1,), WHOLE, ("a", "c", "b", "d"), "down")])
        picture = with_content(PICTURE_OF_X, 2, ("within", "f", PICTURE_OF_X))
        book = of_rules((None, "f", None, None, "down"))
        self.assertEqual(asked_of(Z, book, picture), [
            ((), WHOLE, ("a", "f", "b", "d"), "down"), ((2,), WHOLE, ("a", "c", "b", "d"), "across")])
        self.assertEqual(written(Z, book, picture), ((0,), (2,), (2, 0), (2, 1), (2, 2), (2, 3), (1,), (3,)))
        deep = framed_picture(framed_picture(PICTURE_OF_X))
        self.assertEqual(asked_of(Z, ACROSS, deep), [((0, 0), WHOLE, ("a", "c", "b", "d"), "across")])

    def test_the_kind_of_a_part_and_not_its_name(self):
        book = of_rules(("k", "n", None, None, "down"))
        picture = with_content(PICTURE_OF_X, 2, ("part", "d"))
        self.assertEqual(asked_of(MIXED, book, picture), [((), WHOLE, ("k", "n", "k", "n"), "down")])
        self.assertEqual(asked_of(MIXED, of_rules(("a", "d", None, None, "down")), picture)[0][3], "across")

    def test_by_chance(self):
        chance = random.Random(53)
        asked = 0
        for picture in PICTURES + [grid(2, 2), grid(2, 2), FRAMED]:
            for stock in STOCKS:
                for _ in range(4):
                    book = book_by_chance(chance)
                    self.check(stock, book, picture)
                    asked += len(asked_of(stock, book, picture))
        self.assertGreater(asked, 300)

    def test_what_is_written_is_an_order_of_the_picture(self):
        chance = random.Random(54)
        for picture in PICTURES:
            book = book_by_chance(chance)
            sign = written_putting(MIXED, book, picture)
            self.assertTrue(is_putting(picture, sign))
            self.assertEqual(order_of(sign, book[0]), written(MIXED, book, picture))
            self.assertIn(written(MIXED, book, picture), orders_of(picture, book[0]))
            if count_orders(picture) == 1:
                self.assertEqual(asked_of(MIXED, book, picture), [])

    def test_errors(self):
        for function in (written, written_putting, asked_of):
            for picture in (WHEEL, BARRED, framed_picture(WHEEL)):
                with self.assertRaises(BadPicture):
                    function(Z, ACROSS, picture)
            stock = (Z[0] + (("e", "e", Z[0][0][2]),), Z[1])
            for picture in (WHEEL, BARRED, framed_picture(WHEEL)):
                with self.assertRaises(NoPutting):
                    function(stock, ACROSS, picture)
            for content in [("part", "e"), ("part", "f"), ("within", "a", ONE), ("within", "g", ONE),
                            ("within", "f", framed_picture(ONE, "g")), ("within", "f", with_content(ONE, 0, ("part", "x")))]:
                with self.assertRaises(BadPicture):
                    function(Z, ACROSS, with_content(PICTURE_OF_X, 1, content))
            for thing in objects() + with_lists(PICTURE_OF_X) + [X, Z, BOOK]:
                with self.assertRaises(BadPicture):
                    function(Z, ACROSS, thing)
                for picture in (PICTURE_OF_X, None, WHEEL):
                    if thing is not Z:
                        with self.assertRaises(BadStock):
                            function(thing, ACROSS, picture)
            for thing in no_books():
                for picture in (PICTURE_OF_X, WHEEL):
                    with self.assertRaises(BadBook):
                        function(Z, thing, picture)


class BooksApart(unittest.TestCase):
    def check(self, stock, book, other, wanted):
        self.assertEqual(books_apart(stock, book, other), wanted)
        self.assertEqual(books_apart(stock, other, book), wanted)
        if wanted is not None:
            self.assertNotEqual(written(stock, book, wanted), written(stock, other, wanted))

    def test_the_same_books(self):
        for book in (ACROSS, DOWN_FIRST, BOOK):
            self.check(Z, book, book, None)

    def test_two_cells_by_the_hand(self):
        side_by_side = picture_of(("across", HALF, A, A))
        above = picture_of(("down", HALF, A, A))
        for one, other in product(HANDS, HANDS):
            wanted = side_by_side if one[0] != other[0] else above if one[1] != other[1] else None
            self.check(Z, of_rules(RULE, hand=one), of_rules(RULE, hand=other), wanted)
        self.check(Z, of_rules(hand=("left", "lower")), of_rules(word="down"), above)
        # The least name and not the first of the stock.
        self.check(MIXED, of_rules(hand=("right", "upper")), ACROSS, side_by_side)
        only = (((("z", "k", Z[0][0][2])), ("y", "k", Z[0][0][2])), Z[1])
        self.check(only, of_rules(hand=("right", "upper")), ACROSS, picture_of(("across", HALF, ("part", "y"), ("part", "y"))))

    def test_four_cells(self):
        self.check(Z, ACROSS, DOWN_FIRST, picture_of(("across", HALF, ("down", HALF, A, A), ("down", HALF, A, A))))
        self.check(Z, BOOK, ACROSS, picture_of(
            ("across", HALF, ("down", HALF, A, ("part", "c")), ("down", HALF, A, A))))
        # Lower left comes ahead of upper right in the picture's sequence.
        book = of_rules((None, "b", "a", None, "down"), (None, "a", "b", None, "down"))
        self.check(Z, book, ACROSS, picture_of(("across", HALF, ("down", HALF, A, A), ("down", HALF, B, A))))
        self.check(Z, of_rules((None, None, None, "b", "down")), ACROSS, picture_of(
            ("across", HALF, ("down", HALF, A, A), ("down", HALF, A, B))))

    def test_a_frame_where_no_part_tells(self):
        book = of_rules(("f", None, None, "d", "down"))
        frame = ("within", "f", A)
        self.check(Z, book, ACROSS, picture_of(("across", HALF, ("down", HALF, frame, A), ("down", HALF, A, ("part", "d")))))
        book = of_rules(("n", None, None, "k", "down"), ("n", None, None, None, "across"), (None, "n", "n", "n", "down"))
        self.check(MIXED, book, ACROSS, picture_of(
            ("across", HALF, ("down", HALF, A, ("part", "d")), ("down", HALF, ("part", "d"), ("part", "d")))))
        # The first part of the stock stands in the frame, not the least one.
        stock = (MIXED[0][:2], MIXED[1])
        frame = ("within", "g", B)
        self.check(stock, of_rules((None, "n", None, None, "down")), ACROSS, picture_of(
            ("across", HALF, ("down", HALF, A, A), ("down", HALF, frame, A))))

    def test_unlike_in_a_rule_that_no_picture_asks(self):
        self.check(Z, of_rules(("zz", None, None, None, "down")), ACROSS, None)
        self.check(Z, of_rules(("a", None, None, "k", "down"), RULE), of_rules(RULE), None)
        self.check(ONE_KIND, of_rules(("k", "k", "k", "m", "down")), ACROSS, None)

    def test_unlike_in_a_rule_behind_one_that_always_fits(self):
        first = ANY + ("down",)
        self.check(Z, of_rules(first, RULE), of_rules(first, ("a", "a", "a", "a", "across")), None)
        self.check(Z, of_rules(first, word="down"), of_rules(first, word="across"), None)
        self.check(ONE_KIND, of_rules(("k", "k", "k", "k", "down"), RULE), of_rules(("k", "k", None, "k", "down")), None)
        self.check(Z, of_rules(RULE[:4] + ("across",)), ACROSS, None)

    def test_two_rules_for_one(self):
        rules = [tuple(kind if at == 1 else None for at in range(4)) + ("down",) for kind in "abcdf"]
        self.check(Z, of_rules(*rules), DOWN_FIRST, None)
        self.check(Z, of_rules(*rules[:4]), DOWN_FIRST, picture_of(
            ("across", HALF, ("down", HALF, A, A), ("down", HALF, ("within", "f", A), A))))

    def test_thirty_rules_each_and_eighteen_kinds(self):
        chance = random.Random(55)
        line = Z[0][0][2]
        parts = tuple((f"p{at}", f"p{at}", line) for at in range(12))
        frames = tuple((f"f{at}", f"f{at}", line, WHOLE, 0) for at in range(6))
        kinds = [entry[1] for entry in parts + frames]
        rules = [tuple(kinds[(at + corner) % 18] if corner == at % 4 else None for corner in range(4)) + ("across",)
                 for at in range(30)]
        self.check((parts, frames), of_rules(*rules), ACROSS, None)
        last = ("within", "f5", ("part", "p0"))
        self.check((parts, frames), of_rules(*rules[:29], ("f5", "f5", "f5", "f5", "down")), of_rules(*rules), picture_of(
            ("across", HALF, ("down", HALF, last, last), ("down", HALF, last, last))))
        for _ in range(3):
            more = tuple(rule_by_chance(chance, kinds) for _ in range(30))
            self.check((parts, frames), of_rules(*more), of_rules(*more), None)

    def test_by_chance(self):
        chance = random.Random(56)
        seen = {True: 0, False: 0}
        for at in range(200):
            stock = STOCKS[at] if at < 2 else chance.choice([(MIXED[0][2:], MIXED[1][:1]), (MIXED[0][1:3], MIXED[1][1:])])
            book = book_by_chance(chance, 3)
            other = (book[0], book_by_chance(chance, 3)[1], book[2])
            if chance.random() < 0.7:
                rules = list(book[1]) + [rule_by_chance(chance)]
                chance.shuffle(rules)
                other = (book[0], tuple(rules), book[2])
            wanted = book_oracles.apart(stock, book, other)
            self.check(stock, book, other, wanted)
            seen[wanted is None] += 1
        self.assertGreater(min(seen.values()), 30)

    def test_errors(self):
        for thing in no_books():
            for other in (BOOK, None):
                with self.assertRaises(BadBook):
                    books_apart(Z, thing, other)
            with self.assertRaises(BadBook):
                books_apart(Z, BOOK, thing)
        for thing in objects():
            with self.assertRaises(BadStock):
                books_apart(thing, None, None)


class MainProperty(unittest.TestCase):
    """Two books write all pictures alike exactly if they do all pictures of at most four cells."""

    def test_books_that_are_not_apart_write_all_pictures_alike(self):
        chance = random.Random(57)
        for _ in range(40):
            stock = chance.choice(STOCKS)
            book = book_by_chance(chance, 8)
            other = cleaned(stock, book)
            self.assertIsNone(books_apart(stock, book, other))
            for picture in PICTURES[::4]:
                self.assertEqual(written(stock, book, picture), written(stock, other, picture))


class Cleaned(unittest.TestCase):
    def test_nothing_to_clean(self):
        for book in (ACROSS, DOWN_FIRST, of_rules(RULE), of_rules(RULE, ("b", "b", "b", "b", "down"), hand=("right", "lower"))):
            self.assertEqual(cleaned(Z, book), book)

    def test_rules_that_say_nothing_new(self):
        self.assertEqual(cleaned(Z, BOOK), of_rules(RULE))
        self.assertEqual(cleaned(Z, of_rules(RULE, RULE)), of_rules(RULE))
        self.assertEqual(cleaned(Z, of_rules(("zz", None, None, None, "down"))), ACROSS)
        self.assertEqual(cleaned(Z, of_rules(ANY + ("across",), RULE, ANY + ("down",))), ACROSS)
        self.assertEqual(cleaned(Z, of_rules(RULE, ANY + ("down",))), of_rules(ANY + ("down",)))
        self.assertEqual(cleaned(Z, of_rules(ANY + ("down",), word="down")), DOWN_FIRST)

    def test_the_first_of_two_that_may_each_be_left_out(self):
        one, other = ("k", None, None, None, "down"), (None, "k", None, None, "down")
        self.assertEqual(cleaned(ONE_KIND, of_rules(one, other)), of_rules(one))
        self.assertEqual(cleaned(ONE_KIND, of_rules(other, one)), of_rules(other))
        self.assertEqual(cleaned(ONE_KIND, of_rules(("m", None, None, None, "down"), other, one)), of_rules(other))

    def test_rules_of_the_book_in_their_sequence(self):
        rules = (("a", None, None, None, "across"), ("a", "b", None, None, "down"), (None, "b", None, None, "down"),
                 (None, "b", "b", None, "down"))
        self.assertEqual(cleaned(Z, of_rules(*rules)), of_rules(rules[0], rules[2]))
        self.assertEqual(cleaned(Z, of_rules(*rules[1:])), of_rules(rules[2]))

    def test_ten_rules_and_eleven(self):
        rules = [("a", None, kind, None, "down") for kind in "abcdf"] + [(None, kind, None, "b", "down") for kind in "abcdf"]
        self.assertEqual(cleaned(Z, of_rules(*rules)), of_rules(*rules))
        self.assertEqual(cleaned(Z, of_rules(*rules[:9], ("a",) + ANY[1:] + ("down",))),
                         of_rules(*rules[5:9], ("a",) + ANY[1:] + ("down",)))
        with self.assertRaises(TooMany):
            cleaned(Z, of_rules(*rules, rules[0]))
        with self.assertRaises(TooMany):
            cleaned(Z, of_rules(*[ANY + ("across",)] * 11))
        with self.assertRaises(TooMany):
            cleaned(Z, of_rules(*[ANY + ("across",)] * 30))
        with self.assertRaises(BadBook):
            cleaned(Z, of_rules(*[ANY + ("across",)] * 31))
        with self.assertRaises(BadStock):
            cleaned(None, of_rules(*rules, rules[0]))

    def test_by_chance(self):
        chance = random.Random(58)
        less = 0
        for _ in range(150):
            stock = chance.choice([MIXED, ONE_KIND, (MIXED[0][1:], MIXED[1][:1])])
            book = book_by_chance(chance, 6)
            wanted = book_oracles.clean(stock, book)
            self.assertEqual(cleaned(stock, book), wanted)
            less += len(wanted[1]) < len(book[1])
        self.assertGreater(less, 40)

    def test_errors(self):
        for thing in no_books():
            with self.assertRaises(BadBook):
                cleaned(Z, thing)


class Turned(unittest.TestCase):
    def test_each_of_the_three(self):
        book = of_rules(("a", "b", "c", "d", "across"), ("a", None, None, None, "down"), word="down")
        self.assertEqual(mirrored_book(book), (
            ("right", "upper"), (("b", "a", "d", "c", "across"), (None, "a", None, None, "down")), "down"))
        self.assertEqual(turned_over_book(book), (
            ("left", "lower"), (("c", "d", "a", "b", "across"), (None, None, "a", None, "down")), "down"))
        self.assertEqual(side_book(book), (
            ("left", "upper"), (("a", "c", "b", "d", "down"), ("a", None, None, None, "across")), "across"))

    def test_the_hands(self):
        self.assertEqual([mirrored_book(of_rules(hand=hand))[0] for hand in HANDS],
                         [("right", "upper"), ("right", "lower"), ("left", "upper"), ("left", "lower")])
        self.assertEqual([turned_over_book(of_rules(hand=hand))[0] for hand in HANDS],
                         [("left", "lower"), ("left", "upper"), ("right", "lower"), ("right", "upper")])
        self.assertEqual([side_book(of_rules(hand=hand))[0] for hand in HANDS],
                         [("left", "upper"), ("right", "upper"), ("left", "lower"), ("right", "lower")])

    def test_done_twice(self):
        chance = random.Random(59)
        for _ in range(60):
            book = book_by_chance(chance, 30)
            for turn in (mirrored_book, turned_over_book, side_book):
                self.assertEqual(turn(turn(book)), book)
                self.assertNotEqual(turn(book), book)

    def test_a_turned_book_writes_the_turned_picture_path_by_path(self):
        chance = random.Random(60)
        for picture in PICTURES:
            for stock in STOCKS:
                book = book_by_chance(chance)
                for word, turn, of_book in [("mirrored", mirrored, mirrored_book), ("turned_over", turned_over, turned_over_book),
                                            ("turned_side", turned_side, side_book)]:
                    order = tuple(moved_path(picture, word, path) for path in written(stock, book, picture))
                    self.assertEqual(written(stock, of_book(book), turn(picture)), order)

    def test_bad_book(self):
        for thing in no_books():
            for turn in (mirrored_book, turned_over_book, side_book):
                with self.assertRaises(BadBook):
                    turn(thing)


if __name__ == "__main__":
    unittest.main()
