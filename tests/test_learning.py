import random
import unittest

from brushedsigns.books import asked_of, written
from brushedsigns.errors import BadHand, BadSamples, BadStock, TooMany
from brushedsigns.learning import choice_fault, choices_for, hands_for, learned
from brushedsigns.orders import orders_of
from brushedsigns.pictures import paths_of, picture_of
from tests import book_oracles
from tests.drawn import BARRED, FRAMED, LEFT_UPPER, ONE, PICTURE_OF_X, WHEEL, columns, framed_picture, grid, with_content
from tests.oracles import HANDS
from tests.shelf import MIXED, ONE_KIND, STOCKS, Z, book_by_chance, put_pictures
from tests.test_orders import NO_HANDS, cells, no_orders
from tests.things import A, B, EqualToAll, HALF, STOCK, Stubborn, X, objects, with_lists

ASCENDING_HANDS = sorted(HANDS)
SAMPLE_OF_X = (PICTURE_OF_X, cells(0, 1, 2, 3))
SAMPLE_OF_Y = (PICTURE_OF_X, cells(0, 2, 1, 3))
KINDS_OF_X = ("a", "c", "b", "d")
# No hand writes so.
NO_ORDER = cells(0, 3, 1, 2)
WIDE = picture_of(("across", (1, 3), ("down", HALF, A, B), X))
# An order of the picture, but not by the first of its cuts across.
LATER_CUT = cells(0, 2, 1, 3, 4, 5)
PICTURES = put_pictures(80, 61, room=8, most=60)


def kinds_stock(count):
    """A stock in which each of so many parts has a kind of its own."""
    return (tuple((name, name, Z[0][0][2]) for name in "abcdefghijkl"[:count]), ())


def square(names):
    """The picture of four equal cells, told from above row by row."""
    upper_left, upper_right, lower_left, lower_right = [("part", name) for name in names]
    return picture_of(("across", HALF, ("down", HALF, upper_left, lower_left), ("down", HALF, upper_right, lower_right)))


def samples_by_chance(chance, stock, hand):
    """Samples that a book may write, perhaps some of another book, of another hand, or of none."""
    book = (hand,) + book_by_chance(chance)[1:]
    found = []
    for _ in range(chance.randint(0, 5)):
        picture = chance.choice(PICTURES)
        kind = chance.random()
        if kind < 0.75:
            order = written(stock, book, picture)
        elif kind < 0.9:
            order = chance.choice(orders_of(picture, hand))
        elif kind < 0.95:
            order = chance.choice(orders_of(picture, chance.choice(HANDS)))
        else:
            order = paths_of(picture)
        found.append((picture, order))
    return tuple(found)


def no_samples():
    found = [thing for thing in objects() if repr(thing) != "()"] + with_lists((SAMPLE_OF_X,)) + [
        SAMPLE_OF_X, (SAMPLE_OF_X, None), (SAMPLE_OF_X + (None,),), (SAMPLE_OF_X[:1],), (SAMPLE_OF_X[::-1],),
        (SAMPLE_OF_X,) * 21, [SAMPLE_OF_X], [], (EqualToAll(),), (Stubborn(),), ((PICTURE_OF_X, EqualToAll()),),
        ((EqualToAll(), SAMPLE_OF_X[1]),), ((PICTURE_OF_X, None),), ((X, SAMPLE_OF_X[1]),), STOCK]
    for content in [("part", "e"), ("part", "f"), ("within", "a", ONE), ("within", "f", with_content(ONE, 0, ("part", "z")))]:
        picture = with_content(ONE, 0, content)
        found.append(((picture, paths_of(picture)),))
    for picture in (WHEEL, BARRED, framed_picture(WHEEL)):
        found.append((SAMPLE_OF_X, (picture, paths_of(picture))))
    for picture in (PICTURE_OF_X, FRAMED):
        found += [((picture, order),) for order in no_orders(picture)]
    return found


class HandsFor(unittest.TestCase):
    def test_no_sample(self):
        for stock in STOCKS:
            self.assertEqual(hands_for(stock, ()), ASCENDING_HANDS)

    def test_orders_of_no_hand_of_one_and_of_several(self):
        self.assertEqual(hands_for(Z, (SAMPLE_OF_X,)), [LEFT_UPPER])
        self.assertEqual(hands_for(Z, (SAMPLE_OF_X, SAMPLE_OF_Y)), [LEFT_UPPER])
        self.assertEqual(hands_for(Z, ((PICTURE_OF_X, NO_ORDER),)), [])
        self.assertEqual(hands_for(Z, ((PICTURE_OF_X, NO_ORDER), SAMPLE_OF_X)), [])
        self.assertEqual(hands_for(Z, ((ONE, cells(0)),)), ASCENDING_HANDS)
        self.assertEqual(hands_for(Z, ((columns([], [], []), cells(0, 1, 2)),)), [("left", "lower"), ("left", "upper")])
        self.assertEqual(hands_for(Z, ((columns([1, 2]), cells(2, 1, 0)),)), [("left", "lower"), ("right", "lower")])
        self.assertEqual(hands_for(Z, ((columns([], []), cells(1, 0)), (columns([1]), cells(1, 0)))), [("right", "lower")])
        self.assertEqual(hands_for(Z, ((columns([], []), cells(1, 0)), (columns([], []), cells(0, 1)))), [])

    def test_an_order_that_no_book_writes(self):
        self.assertEqual(hands_for(Z, ((WIDE, LATER_CUT),)), [LEFT_UPPER])

    def test_twenty_samples(self):
        self.assertEqual(hands_for(Z, (SAMPLE_OF_X,) * 20), [LEFT_UPPER])

    def test_by_chance(self):
        chance = random.Random(62)
        for _ in range(80):
            stock, hand = chance.choice(STOCKS), chance.choice(HANDS)
            samples = samples_by_chance(chance, stock, hand)
            wanted = [hand for hand in ASCENDING_HANDS
                      if all(order in book_oracles.all_orders(picture, hand) for picture, order in samples)]
            self.assertEqual(hands_for(stock, samples), wanted)


class Choices(unittest.TestCase):
    def check(self, stock, samples, hand):
        known = book_oracles.choices(stock, samples, hand)
        self.assertLessEqual(len(known), 1)
        choices = choices_for(stock, samples, hand)
        fault = choice_fault(stock, samples, hand)
        self.assertEqual(choices, sorted(known[0]) if known else None)
        self.assertEqual(fault, book_oracles.fault(stock, samples, hand))
        self.assertEqual(fault is None, choices is not None)
        if choices is None:
            self.assertIsNone(learned(stock, samples, hand))
        elif len(choices) <= 30:
            book = learned(stock, samples, hand)
            self.assertEqual(book, (hand, tuple(kinds + (word,) for kinds, word in choices), "across"))
            for picture, order in samples:
                self.assertEqual(written(stock, book, picture), order)
            asked = {entry[2:] for picture, _ in samples for entry in asked_of(stock, book, picture)}
            self.assertEqual(sorted(asked), choices)
        return choices

    def test_no_sample(self):
        for hand in HANDS:
            self.assertEqual(choices_for(Z, (), hand), [])
            self.assertEqual(learned(Z, (), hand), (hand, (), "across"))
            self.assertIsNone(choice_fault(Z, (), hand))

    def test_one_sample(self):
        self.assertEqual(self.check(Z, (SAMPLE_OF_X,), LEFT_UPPER), [(KINDS_OF_X, "across")])
        self.assertEqual(self.check(Z, (SAMPLE_OF_Y,), LEFT_UPPER), [(KINDS_OF_X, "down")])
        self.assertEqual(learned(Z, (SAMPLE_OF_Y,), LEFT_UPPER), (LEFT_UPPER, (KINDS_OF_X + ("down",),), "across"))
        self.assertIsNone(self.check(Z, (SAMPLE_OF_X,), ("right", "upper")))
        self.assertEqual(choice_fault(Z, (SAMPLE_OF_X,), ("right", "upper")), (0, None))

    def test_each_of_the_four_hands(self):
        for hand in HANDS:
            for word in ("across", "down"):
                sample = (PICTURE_OF_X, written(Z, (hand, (), word), PICTURE_OF_X))
                self.assertEqual(self.check(Z, (sample,), hand), [(KINDS_OF_X, word)])

    def test_without_a_cross(self):
        for picture in (ONE, columns([], [], []), columns([1], [], [2, 3]), framed_picture(columns([2, 4]))):
            for hand in HANDS:
                order, = orders_of(picture, hand)
                self.assertEqual(self.check(MIXED, ((with_known_parts(picture), order),), hand), [])

    def test_an_order_that_none_writes(self):
        self.assertIsNone(self.check(Z, ((PICTURE_OF_X, NO_ORDER),), LEFT_UPPER))
        self.assertEqual(choice_fault(Z, (SAMPLE_OF_X, SAMPLE_OF_X, (PICTURE_OF_X, NO_ORDER)), LEFT_UPPER), (2, None))
        order = ((1,), (0,), (1, 0), (1, 1), (1, 2), (1, 3), (2,))
        self.assertEqual(choice_fault(Z, ((FRAMED, order),), LEFT_UPPER), (0, None))
        order = ((0,), (1, 0), (1,), (1, 1), (1, 2), (1, 3), (2,))
        self.assertEqual(choice_fault(Z, ((FRAMED, order),), LEFT_UPPER), (0, None))

    def test_an_order_of_the_picture_that_no_book_writes(self):
        self.assertIn(LATER_CUT, orders_of(WIDE, LEFT_UPPER))
        self.assertIsNone(self.check(Z, ((WIDE, LATER_CUT),), LEFT_UPPER))
        self.assertEqual(choice_fault(Z, ((WIDE, LATER_CUT),), LEFT_UPPER), (0, None))

    def test_a_word_that_comes_only_because_the_other_leads_to_no_order(self):
        # At the whole box the book begins with the first part whichever word it says.
        picture = grid(2, 3)
        stock = kinds_stock(6)
        seen = []
        for order in orders_of(picture, LEFT_UPPER):
            seen.append(self.check(stock, ((picture, order),), LEFT_UPPER))
        self.assertEqual(sum(choices is None for choices in seen), len(seen) - 3)
        self.assertIn([(("a", "e", "b", "f"), "across"), (("c", "e", "d", "f"), "down")], seen)

    def test_one_sample_that_wants_both_words_for_the_same_kinds(self):
        two = picture_of(("across", HALF, ("within", "f", X), ("within", "f", X)))
        order = ((0,), (0, 0), (0, 1), (0, 2), (0, 3), (1,), (1, 0), (1, 2), (1, 1), (1, 3))
        for stock in (Z, ONE_KIND):
            self.assertIsNone(self.check(stock, ((two, order),), LEFT_UPPER))
            self.assertEqual(choice_fault(stock, ((two, order),), LEFT_UPPER), (0, 0))
            self.assertEqual(choice_fault(stock, ((ONE, cells(0)), (two, order)), LEFT_UPPER), (1, 1))
            self.assertEqual(hands_for(stock, ((two, order),)), [LEFT_UPPER])

    def test_two_samples_that_want_unlike_words(self):
        self.assertIsNone(self.check(Z, (SAMPLE_OF_X, SAMPLE_OF_Y), LEFT_UPPER))
        self.assertEqual(choice_fault(Z, (SAMPLE_OF_X, SAMPLE_OF_Y), LEFT_UPPER), (0, 1))
        self.assertEqual(choice_fault(Z, (SAMPLE_OF_Y, SAMPLE_OF_X), LEFT_UPPER), (0, 1))
        self.assertEqual(hands_for(Z, (SAMPLE_OF_X, SAMPLE_OF_Y)), [LEFT_UPPER])

    def test_the_first_pair_by_the_second_index_and_then_by_the_first(self):
        one = (ONE, cells(0))
        other_kinds = (square("abab"), cells(0, 1, 2, 3))
        other_down = (square("abab"), cells(0, 2, 1, 3))
        for samples, fault in [
                ((one, SAMPLE_OF_X, one, SAMPLE_OF_X, SAMPLE_OF_Y), (1, 4)),
                ((SAMPLE_OF_X, other_kinds, other_down, SAMPLE_OF_Y), (1, 2)),
                ((SAMPLE_OF_X, other_kinds, SAMPLE_OF_Y, other_down), (0, 2)),
                ((other_kinds, SAMPLE_OF_X, SAMPLE_OF_X, SAMPLE_OF_Y, SAMPLE_OF_Y), (1, 3)),
                ((SAMPLE_OF_X, SAMPLE_OF_Y, (PICTURE_OF_X, NO_ORDER)), (2, None)),
                ((SAMPLE_OF_X, (PICTURE_OF_X, NO_ORDER), (WIDE, LATER_CUT), SAMPLE_OF_Y), (1, None))]:
            self.assertEqual(choice_fault(Z, samples, LEFT_UPPER), fault)
            self.check(Z, samples, LEFT_UPPER)

    def test_a_pair_ahead_of_a_sample_that_wants_both_behind_it(self):
        two = picture_of(("across", HALF, ("within", "f", X), ("within", "f", X)))
        order = ((0,), (0, 0), (0, 1), (0, 2), (0, 3), (1,), (1, 0), (1, 2), (1, 1), (1, 3))
        for samples, fault in [((SAMPLE_OF_X, (two, order)), (0, 1)), (((two, order), SAMPLE_OF_X), (0, 0)),
                               (((ONE, cells(0)), (two, order), SAMPLE_OF_Y), (1, 1))]:
            self.assertEqual(choice_fault(Z, samples, LEFT_UPPER), fault)
            self.check(Z, samples, LEFT_UPPER)

    def test_the_same_kinds_with_other_names(self):
        samples = ((square("abab"), cells(0, 1, 2, 3)), (square("baba"), cells(0, 2, 1, 3)))
        self.assertEqual(self.check(Z, samples, LEFT_UPPER), [(("a", "b", "a", "b"), "across"), (("b", "a", "b", "a"), "down")])
        self.assertEqual(choice_fault(ONE_KIND, samples, LEFT_UPPER), (0, 1))
        self.assertEqual(self.check(ONE_KIND, samples[1:], LEFT_UPPER), [(("k", "k", "k", "k"), "down")])

    def test_kinds_of_frames(self):
        picture = with_content(PICTURE_OF_X, 1, ("within", "f", ONE))
        sample = (picture, ((0,), (2,), (1,), (1, 0), (3,)))
        self.assertEqual(self.check(Z, (sample,), LEFT_UPPER), [(("a", "c", "f", "d"), "down")])

    def test_twenty_samples(self):
        self.assertEqual(self.check(Z, (SAMPLE_OF_X,) * 20, LEFT_UPPER), [(KINDS_OF_X, "across")])
        self.assertEqual(choice_fault(Z, (SAMPLE_OF_X,) * 19 + (SAMPLE_OF_Y,), LEFT_UPPER), (0, 19))

    def test_thirty_rules_and_more(self):
        # A row of twelve, two a column, has five crosses if each is first cut across.
        stock = kinds_stock(12)
        names = "abcdefghijkl"
        samples = []
        for at in range(7):
            turned = names[at:] + names[:at]
            picture = tuple(entry[:4] + (("part", name),) for entry, name in zip(grid(2, 6), turned))
            samples.append((picture, cells(*range(12))))
        self.assertEqual(len(self.check(stock, tuple(samples[:6]), LEFT_UPPER)), 30)
        self.assertEqual(len(learned(stock, tuple(samples[:6]), LEFT_UPPER)[1]), 30)
        self.assertEqual(len(choices_for(stock, tuple(samples), LEFT_UPPER)), 35)
        self.assertIsNone(choice_fault(stock, tuple(samples), LEFT_UPPER))
        with self.assertRaises(TooMany):
            learned(stock, tuple(samples), LEFT_UPPER)
        one_more = (square("aaaa"), cells(0, 1, 2, 3))
        self.assertEqual(len(choices_for(stock, tuple(samples[:6]) + (one_more,), LEFT_UPPER)), 31)
        with self.assertRaises(TooMany):
            learned(stock, tuple(samples[:6]) + (one_more,), LEFT_UPPER)
        self.assertIsNone(learned(stock, tuple(samples) + ((square("abcd"), NO_ORDER),), LEFT_UPPER))
        with self.assertRaises(BadHand):
            learned(stock, tuple(samples), ("left",))

    def test_by_chance(self):
        chance = random.Random(63)
        seen = {True: 0, False: 0}
        for _ in range(300):
            stock, hand = chance.choice(STOCKS + [Z_WITH_G]), chance.choice(HANDS)
            choices = self.check(stock, samples_by_chance(chance, stock, hand), hand)
            seen[choices is None] += 1
        self.assertGreater(min(seen.values()), 40)

    def test_faults_by_chance(self):
        chance = random.Random(64)
        seen = set()
        crossed = [picture for picture in PICTURES if len(orders_of(picture, LEFT_UPPER)) > 1]
        for _ in range(150):
            samples = []
            for _ in range(chance.randint(2, 5)):
                picture = chance.choice(crossed)
                samples.append((picture, chance.choice(orders_of(picture, LEFT_UPPER))))
            self.check(ONE_KIND, tuple(samples), LEFT_UPPER)
            seen.add(choice_fault(ONE_KIND, tuple(samples), LEFT_UPPER))
        self.assertGreater(len(seen), 8)


class BadArguments(unittest.TestCase):
    def test_bad_stock(self):
        for thing in objects() + [PICTURE_OF_X]:
            with self.assertRaises(BadStock):
                hands_for(thing, None)
            for function in (choices_for, learned, choice_fault):
                with self.assertRaises(BadStock):
                    function(thing, None, None)

    def test_bad_samples(self):
        for thing in no_samples():
            with self.assertRaises(BadSamples, msg=repr(thing)):
                hands_for(Z, thing)
            for function in (choices_for, learned, choice_fault):
                for hand in (LEFT_UPPER, None):
                    with self.assertRaises(BadSamples):
                        function(Z, thing, hand)

    def test_pictures_have_puttings(self):
        stock = (Z[0] + (("e", "e", Z[0][0][2]),), Z[1])
        for picture in (WHEEL, BARRED, framed_picture(WHEEL)):
            with self.assertRaises(BadSamples):
                hands_for(stock, (SAMPLE_OF_X, (picture, paths_of(picture))))

    def test_bad_hand(self):
        for hand in NO_HANDS:
            for function in (choices_for, learned, choice_fault):
                for samples in ((), (SAMPLE_OF_X,), ((PICTURE_OF_X, NO_ORDER),)):
                    with self.assertRaises(BadHand):
                        function(Z, samples, hand)


def with_known_parts(picture):
    """The picture with its parts named a to d alone."""
    return tuple(
        entry[:4] + ((("part", "abcd"["abcdefghijkl".index(entry[4][1]) % 4]),) if entry[4][0] == "part"
                     else (entry[4][:2] + (with_known_parts(entry[4][2]),),))
        for entry in picture)


Z_WITH_G = (Z[0], Z[1] + (("g", "a") + Z[1][0][2:],))


if __name__ == "__main__":
    unittest.main()
