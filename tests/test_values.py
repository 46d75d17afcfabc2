import unittest

from brushedsigns.values import (
    added, apart, are_integers, are_names, ascending, between, is_cut, is_fraction, is_integer, is_less, is_place, rest_of, share_of, weight)
from tests.things import EqualToAll, Stubborn


class Values(unittest.TestCase):
    def test_integers(self):
        for thing in [0, 1, -1, 10 ** 29]:
            self.assertIs(is_integer(thing), True)
        for thing in [True, False, None, "1", b"1", (1,), [1], EqualToAll(), Stubborn()]:
            self.assertIs(is_integer(thing), False)

    def test_fractions_of_whatever_size(self):
        for thing in [(0, 1), (1, 1), (1, 2), (-1, 2), (-3, 1), (7, 2), (1, 10001), (10 ** 29, 10 ** 29 + 1)]:
            self.assertIs(is_fraction(thing), True, thing)
        for thing in [(0, 2), (2, 2), (-2, 4), (1, 0), (0, 0), (0, -1), (1, -2), (-1, -2), (1,), (1, 2, 3), [1, 2], 1,
                      (True, 2), (1, True), (None, 1), None]:
            self.assertIs(is_fraction(thing), False, thing)

    def test_places_and_cuts(self):
        self.assertEqual([is_place(thing) for thing in [(0, 1), (1, 1), (1, 10000), (1, 10001), (-1, 2), (3, 2)]],
                         [True, True, True, False, False, False])
        self.assertEqual([is_cut(thing) for thing in [(0, 1), (1, 1), (1, 10000), (1, 10001), (-1, 2), (3, 2)]],
                         [False, False, True, True, False, False])

    def test_less(self):
        self.assertIs(is_less((1, 3), (1, 2)), True)
        self.assertIs(is_less((1, 2), (1, 3)), False)
        self.assertIs(is_less((1, 2), (1, 2)), False)
        self.assertIs(is_less((9998, 9999), (9999, 10000)), True)

    def test_between(self):
        self.assertEqual(between((0, 1), (1, 1), (2, 3)), (2, 3))
        self.assertEqual(between((1, 4), (3, 4), (1, 2)), (1, 2))
        self.assertEqual(between((1, 3), (1, 2), (1, 5)), (11, 30))

    def test_shares_turn_back_what_is_between(self):
        self.assertEqual(share_of((1, 3), (1, 2), (11, 30)), (1, 5))
        self.assertEqual(share_of((0, 1), (1, 1), (2, 3)), (2, 3))
        self.assertEqual(share_of((1, 4), (3, 4), (1, 4)), (0, 1))
        self.assertEqual(share_of((1, 4), (3, 4), (3, 4)), (1, 1))

    def test_what_is_left_of_one(self):
        self.assertEqual([rest_of(place) for place in [(0, 1), (1, 1), (1, 3), (9999, 10000)]],
                         [(1, 1), (0, 1), (2, 3), (1, 10000)])

    def test_ascending_as_numbers(self):
        places = [(0, 1), (1, 10000), (1, 9999), (1, 3), (1, 2), (9998, 9999), (9999, 10000), (1, 1)]
        self.assertEqual(ascending(places[::-1] + places), places)
        self.assertEqual(sorted(places, key=weight), places)
        self.assertEqual(len({weight(place) for place in places}), len(places))

    def test_sums_and_distances_of_whatever_bottoms(self):
        self.assertEqual(added((1, 6), (1, 3)), (1, 2))
        self.assertEqual(added((0, 1), (0, 1)), (0, 1))
        self.assertEqual(added((7, 2), (1, 10 ** 9)), (3500000001, 10 ** 9))
        for one, other, wanted in [((1, 2), (1, 3), (1, 6)), ((1, 3), (1, 3), (0, 1)), ((0, 1), (1, 10 ** 9), (1, 10 ** 9))]:
            self.assertEqual(apart(one, other), wanted)
            self.assertEqual(apart(other, one), wanted)

    def test_tuples_of_names(self):
        for thing in [(), ("a",), ("line", "dot", "line")]:
            self.assertIs(are_names(thing), True)
        for thing in [None, [], ["a"], "a", ("A",), ("a", None), (("a",),), (EqualToAll(),), EqualToAll(), Stubborn()]:
            self.assertIs(are_names(thing), False)

    def test_tuples_of_integers(self):
        for thing in [(), (0,), (1, -1, 10 ** 29)]:
            self.assertIs(are_integers(thing), True)
        for thing in [None, [], [0], 0, (True,), (0, False), (None,), ((0,),), ("0",), (EqualToAll(),), EqualToAll()]:
            self.assertIs(are_integers(thing), False)


if __name__ == "__main__":
    unittest.main()
