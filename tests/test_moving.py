import random
import unittest

from brushedsigns.errors import BadMove, BadSign, TooMany
from brushedsigns.moving import all_led, moved, moves_between, moves_lead, moves_of, plain
from brushedsigns.pictures import picture_of
from brushedsigns.signs import is_sign
from tests import oracles
from tests.drawn import BARRED, FRAMED, LEFT_UPPER, PICTURE_OF_X, WHEEL, columns, grid
from tests.test_pictures import some_pictures
from tests.test_signs import GREAT
from tests.things import (
    A, B, C, D, EqualToAll, HALF, STOCK, Stubborn, X, balanced, framed, objects, row, with_each, with_lists)

WORDS = ("across", "down")
Y = ("down", HALF, ("across", HALF, A, C), ("across", HALF, B, D))


def bracketed(word):
    """Two signs of one row of three, the left one of which a right move leads to the other one, and back."""
    return (word, (5, 8), (word, (2, 5), A, B), C), (word, (1, 4), A, (word, (1, 2), B, C))


def signs_in(sign, place=()):
    """The signs in a sign, by their places."""
    found = {place: sign}
    for at in {"part": (), "within": (2,)}.get(sign[0], (2, 3)):
        found.update(signs_in(sign[at], place + (at,)))
    return found


def all_moves(sign):
    """The moves that can be made, by the form of the signs at the places."""
    found = []
    for place, inner in signs_in(sign).items():
        if inner[0] in WORDS:
            if inner[3][0] == inner[0]:
                found.append(("left", place))
            if inner[2][0] == inner[0]:
                found.append(("right", place))
            one, other = inner[2], inner[3]
            if {inner[0], one[0], other[0]} == set(WORDS) and one[0] == other[0] and one[1] == other[1]:
                found.append(("turn", place))
    return sorted(found)


def no_moves(sign):
    """Objects that are no move to be made in the sign."""
    found = objects() + [("left",), ("left", (), ()), ["left", ()], ("left", []), ("Left", ()), ("beside", ()), ("left", None),
                         (None, ()), (("left",), ()), ("left", 0), (EqualToAll(), ()), ("left", EqualToAll()),
                         (Stubborn(), ()), ("left", Stubborn()), ("turn", (True,)), ("left", ("2",)), (b"left", ())]
    places = list(signs_in(sign))
    more = [place + (at,) for place in places for at in (-1, 0, 1, 2, 3, 4, True, None, "2", EqualToAll())]
    for word in ("left", "right", "turn"):
        for place in places:
            if (word, place) not in all_moves(sign):
                found.append((word, place))
            found += [[word, place], (word, list(place)), (word, place, place)]
        found += [(word, place) for place in more if repr(place) not in map(repr, places)]
    return found


def some_groups(many, seed):
    """Pictures by chance with the signs that each of them has, where these are from two to a hundred."""
    found = []
    for picture in some_pictures(many, seed):
        signs = oracles.sorted_puttings(picture)
        if 2 <= len(signs) <= 100:
            found.append((picture, signs))
    return found


GROUPS = some_groups(350, 21)


class Moves(unittest.TestCase):
    def test_brackets(self):
        for word in WORDS:
            one, other = bracketed(word)
            self.assertEqual(moves_of(one), [("right", ())])
            self.assertEqual(moves_of(other), [("left", ())])
            self.assertEqual(moved(one, ("right", ())), other)
            self.assertEqual(moved(other, ("left", ())), one)

    def test_the_numbers_of_a_bracket(self):
        s, t = (1, 3), (1, 4)
        for word in WORDS:
            sign = (word, s, A, (word, t, B, C))
            self.assertEqual(moved(sign, ("left", ())), (word, (1, 2), (word, (2, 3), A, B), C))

    def test_turns(self):
        self.assertEqual(moves_of(X), [("turn", ())])
        self.assertEqual(moved(X, ("turn", ())), Y)
        self.assertEqual(moved(Y, ("turn", ())), X)
        sign = ("across", (1, 3), ("down", (1, 4), A, B), ("down", (1, 4), C, D))
        other = ("down", (1, 4), ("across", (1, 3), A, C), ("across", (1, 3), B, D))
        self.assertEqual(moved(sign, ("turn", ())), other)
        self.assertEqual(moved(other, ("turn", ())), sign)

    def test_no_turn_at_unlike_cuts_or_words(self):
        down = ("down", (1, 3), A, B)
        for one, other in [(down, ("down", (2, 3), C, D)), (down, C), (C, down), (C, D), (down, ("within", "f", down)),
                           (("across", (1, 3), A, B), ("down", (1, 3), C, D))]:
            self.assertNotIn(("turn", ()), moves_of(("across", HALF, one, other)))
            with self.assertRaises(BadMove):
                moved(("across", HALF, one, other), ("turn", ()))
        self.assertEqual(moves_of(("across", HALF, ("across", HALF, A, B), ("across", HALF, C, D))),
                         [("left", ()), ("right", ())])

    def test_none(self):
        for sign in [A, ("across", HALF, A, B), ("down", HALF, A, B), ("within", "f", A), framed(11),
                     ("across", HALF, ("down", HALF, A, B), C)]:
            self.assertEqual(moves_of(sign), [])

    def test_at_each_kind_of_place(self):
        for word, other in (WORDS, WORDS[::-1]):
            one, led = bracketed(word)
            for make, place in [
                    (lambda sign: ("within", "f", sign), (2,)), (lambda sign: (other, HALF, sign, D), (2,)),
                    (lambda sign: (other, HALF, D, sign), (3,)),
                    (lambda sign: (other, HALF, D, ("within", "f", (other, HALF, sign, D))), (3, 2, 2)),
                    (lambda sign: (other, HALF, D, (other, HALF, D, ("within", "g", sign))), (3, 3, 2))]:
                self.assertIn(("right", place), moves_of(make(one)))
                self.assertEqual(moved(make(one), ("right", place)), make(led))
                self.assertEqual(moved(make(led), ("left", place)), make(one))
                self.assertEqual(moved(make(X), ("turn", place)), make(Y))

    def test_they_ascend(self):
        one, led = bracketed("across")
        sign = ("across", HALF, one, ("across", HALF, ("within", "f", X), led))
        self.assertEqual(moves_of(sign), [
            ("left", ()), ("left", (3,)), ("left", (3, 3)), ("right", ()), ("right", (2,)), ("turn", (3, 2, 2))])

    def test_by_chance(self):
        for _, signs in GROUPS:
            for sign in signs[:20]:
                self.assertEqual(moves_of(sign), all_moves(sign))
                for move in moves_of(sign):
                    led = moved(sign, move)
                    self.assertIn(led, signs)
                    back = {"left": "right", "right": "left", "turn": "turn"}[move[0]]
                    self.assertEqual(moved(led, (back, move[1])), sign)

    def test_the_greatest_bottoms(self):
        sign = ("across", (9999, 10000), ("across", GREAT, A, B), C)
        led = moved(sign, ("right", ()))
        self.assertIs(is_sign(led), True)
        self.assertEqual(picture_of(led), picture_of(sign))
        self.assertEqual(led[1], (5000, 9999))
        self.assertEqual(moved(led, ("left", ())), sign)

    def test_bad_move(self):
        for sign in [A, X, Y, bracketed("across")[0], ("within", "f", bracketed("down")[1]),
                     ("down", HALF, X, ("within", "f", X))]:
            for thing in no_moves(sign):
                with self.assertRaises(BadMove, msg=thing):
                    moved(sign, thing)


class Between(unittest.TestCase):
    def check(self, sign, other):
        moves = moves_between(sign, other)
        self.assertIs(type(moves), list)
        led = sign
        for move in moves:
            self.assertIn(move, all_moves(led))
            led = moved(led, move)
            self.assertIs(is_sign(led), True)
        self.assertEqual(led, other)
        self.assertIs(moves_lead(sign, other, moves), True)

    def test_some(self):
        self.check(X, X)
        self.check(X, Y)
        self.check(Y, X)
        self.check(A, A)
        self.assertEqual(moves_between(X, X), [])
        self.check(("within", "f", X), ("within", "f", Y))

    def test_long_rows(self):
        for word in WORDS:
            sign = row(12, word)
            other = oracles.sorted_puttings(columns([], [], [], []))[-1]
            self.check(sign, plain(sign))
            self.check(plain(sign), sign)
            self.check(other, plain(other))
        self.check(balanced(12), plain(balanced(12)))

    def test_grids(self):
        chance = random.Random(22)
        for picture in (grid(2, 5), grid(3, 3), grid(2, 4)):
            signs = oracles.sorted_puttings(picture)
            for _ in range(60):
                self.check(chance.choice(signs), chance.choice(signs))

    def test_all_puttings_of_a_picture_by_chance(self):
        chance = random.Random(23)
        for _, signs in GROUPS:
            for _ in range(6):
                self.check(chance.choice(signs), chance.choice(signs))

    def test_pictures_that_are_not_the_same(self):
        near = [A, ("within", "f", X), ("across", HALF, X[3], X[2]), ("across", (1, 3), X[2], X[3]),
                ("across", HALF, X[2], ("down", (1, 3), C, D)), ("down", HALF, X[2], X[3]),
                ("across", HALF, X[2], ("down", HALF, C, ("within", "d", A)))]
        for other in near:
            self.assertIsNone(moves_between(X, other))
            self.assertIsNone(moves_between(other, X))
            for thing in ([], [("turn", ())]):
                self.assertIs(moves_lead(X, other, thing), False)
        self.assertIsNone(moves_between(("within", "f", A), ("within", "g", A)))

    def test_moves_lead(self):
        self.assertIs(moves_lead(X, X, []), True)
        self.assertIs(moves_lead(X, Y, [("turn", ())]), True)
        self.assertIs(moves_lead(X, X, [("turn", ()), ("turn", ())]), True)
        self.assertIs(moves_lead(X, Y, [("turn", ())] * 3), True)
        self.assertIs(moves_lead(X, Y, [("turn", ())] * 2), False)
        self.assertIs(moves_lead(X, Y, []), False)
        self.assertIs(moves_lead(X, X, [("turn", ())]), False)
        self.assertIs(moves_lead(X, X, [("turn", ()), ("left", ()), ("turn", ())]), False)
        self.assertIs(moves_lead(X, Y, [("turn", ()), ("left", ())]), False)
        for word in WORDS:
            one, other = bracketed(word)
            self.assertIs(moves_lead(one, other, [("right", ())]), True)
            self.assertIs(moves_lead(other, one, [("left", ())]), True)
            self.assertIs(moves_lead(one, other, [("left", ())]), False)

    def test_moves_lead_of_any_object(self):
        for thing in objects() + [(("turn", ()),), ("turn", ()), ["turn", ()], [["turn", ()]], [("turn", [])], {("turn", ()): 1},
                                  [("turn", ()), None], [None, ("turn", ())], [EqualToAll()], [(EqualToAll(), ())],
                                  [("turn", EqualToAll())], [Stubborn()], [("turn", Stubborn())], EqualToAll()]:
            self.assertIs(moves_lead(X, Y, thing), False, thing)
        for thing in no_moves(X):
            self.assertIs(moves_lead(X, Y, [thing]), False, thing)
            self.assertIs(moves_lead(X, Y, [thing, ("turn", ())]), False)
            self.assertIs(moves_lead(X, X, [thing]), False)
        for thing in objects():
            if not isinstance(thing, list) or thing:
                self.assertIs(moves_lead(X, X, thing), False)


class AllLed(unittest.TestCase):
    def test_some(self):
        self.assertEqual(all_led(A), [A])
        self.assertEqual(all_led(X), [X, Y])
        self.assertEqual(all_led(Y), [X, Y])
        self.assertEqual(all_led(("within", "f", Y)), [("within", "f", X), ("within", "f", Y)])
        self.assertEqual(all_led(bracketed("across")[0]), list(bracketed("across")[::-1]))

    def test_they_are_led_to_and_the_puttings_of_the_picture(self):
        for picture, signs in GROUPS:
            self.assertEqual(all_led(signs[-1]), signs)
            seen, waiting = {signs[0]}, [signs[0]]
            while waiting:
                sign = waiting.pop()
                for move in moves_of(sign):
                    led = moved(sign, move)
                    if led not in seen:
                        seen.add(led)
                        waiting.append(led)
            self.assertEqual(sorted(seen, key=oracles.sign_key), signs)
            self.assertEqual({picture_of(sign) for sign in seen}, {picture})

    def test_five_hundred_and_more(self):
        self.assertEqual(len(all_led(row(8))), 429)
        five_hundred = columns([1, 3], [1, 2, 3, 4, 5], [3], [])
        one_more = columns([1], [1, 2, 3, 4], [2, 3, 4, 5])
        self.assertEqual(all_led(oracles.all_puttings(five_hundred)[7]), oracles.sorted_puttings(five_hundred))
        for sign in [oracles.all_puttings(one_more)[7], row(9), row(12, "down"), ("within", "f", row(9))]:
            with self.assertRaises(TooMany):
                all_led(sign)


class Plain(unittest.TestCase):
    def test_some(self):
        for sign in [A, X, Y, ("within", "f", X)]:
            self.assertEqual(plain(sign), sign)
        for word in WORDS:
            one, other = bracketed(word)
            self.assertEqual(plain(other), one)
            self.assertEqual(plain(one), one)
            self.assertEqual(plain(("within", "f", ("within", "f", other))), ("within", "f", ("within", "f", one)))

    def test_rows(self):
        for word in WORDS:
            for many in range(2, 13):
                sign = plain(row(many, word))
                for _ in range(many - 1):
                    self.assertEqual((sign[0], sign[3]), (word, A))
                    sign = sign[2]
                self.assertEqual(sign, A)

    def test_as_long_as_there_are_left_moves_in_whatever_sequence(self):
        chance = random.Random(24)
        for _, signs in GROUPS:
            for sign in signs[:10]:
                led = sign
                while [move for move in moves_of(led) if move[0] == "left"]:
                    led = moved(led, chance.choice([move for move in moves_of(led) if move[0] == "left"]))
                self.assertEqual(plain(sign), led)
                for inner in signs_in(plain(sign)).values():
                    self.assertFalse(inner[0] in WORDS and inner[3][0] == inner[0])

    def test_the_same_but_for_brackets(self):
        for _, signs in GROUPS:
            group = {}
            for sign in signs:
                seen, waiting = {sign}, [sign]
                while waiting:
                    now = waiting.pop()
                    for move in moves_of(now):
                        if move[0] != "turn" and moved(now, move) not in seen:
                            seen.add(moved(now, move))
                            waiting.append(moved(now, move))
                group[sign] = frozenset(seen)
            self.assertEqual(len(set(group.values())), len({plain(sign) for sign in signs}))
            for sign in signs:
                self.assertEqual({plain(other) for other in group[sign]}, {plain(sign)})


class MainProperty(unittest.TestCase):
    """Puttings are led one into another by brackets and turns; brackets alone leave the order as it is."""

    def test_brackets_keep_the_order_and_turns_do_not(self):
        for _, signs in GROUPS:
            for sign in signs[:15]:
                for hand in oracles.HANDS:
                    before = oracles.order_by(sign, hand)
                    for move in moves_of(sign):
                        after = oracles.order_by(moved(sign, move), hand)
                        self.assertEqual(before == after, move[0] != "turn")

    def test_orders_are_as_many_as_puttings_but_for_brackets(self):
        for _, signs in GROUPS:
            for hand in oracles.HANDS:
                orders = {oracles.order_by(sign, hand) for sign in signs}
                self.assertEqual(len(orders), len({plain(sign) for sign in signs}))


class BadSigns(unittest.TestCase):
    def test_bad_sign(self):
        for thing in objects() + with_lists(X) + with_each(X, lambda entry: [None, True]) + [
                row(13), framed(12), PICTURE_OF_X, WHEEL, FRAMED, BARRED, STOCK, LEFT_UPPER]:
            for function in (moves_of, all_led, plain):
                with self.assertRaises(BadSign):
                    function(thing)
            for move in [("turn", ()), None]:
                with self.assertRaises(BadSign):
                    moved(thing, move)
            for signs in [(thing, X), (X, thing), (thing, thing)]:
                with self.assertRaises(BadSign):
                    moves_between(*signs)
                for moves in ([], None):
                    with self.assertRaises(BadSign):
                        moves_lead(*signs, moves)


if __name__ == "__main__":
    unittest.main()
