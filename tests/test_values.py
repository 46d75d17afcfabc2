import unittest

from brushedsigns.values import (
    WHOLE, between, is_bounded, is_cut, is_fraction, is_integer, is_less, is_place, parted)
from tests.things import EqualToAll, Stubborn


class Values(unittest.TestCase):
    def test_integers(self):
        for thing in [0, 1, -1, 10 ** 29]:
            self.assertIs(is_integer(thing), True)
        for thing in [True, False, None, "1", b"1", (1,), [1], EqualToAll(), Stubborn()]:
            self.assertIs(is_integer(thing), False)

    def test_fractions_of_whatever_size(self):
        for thing in [(0, 1), (1, 1), (1, 2), (-1, 2), (-3, 1), (7, 2), (1, 10001), (10 ** 29, 10 ** 29 + 1)]:
            self.assertIs(is_fraction(thing), True, thing)
        for thing in [(0, 2), (2, 2), (-2, 4), (1, 0), (0, 0), (0, -1), (1, -2), (-1, -2), (1,), (1, 2, 3), [1, 2], 1,
                      (True, 2), (1, True), (None, 1), None]:
            self.assertIs(is_fraction(thing), False, thing)

    def test_places_and_cuts(self):
        self.assertEqual([is_place(thing) for thing in [(0, 1), (1, 1), (1, 10000), (1, 10001), (-1, 2), (3, 2)]],
                         [True, True, True, False, False, False])
        self.assertEqual([is_cut(thing) for thing in [(0, 1), (1, 1), (1, 10000), (1, 10001), (-1, 2), (3, 2)]],
                         [False, False, True, True, False, False])

    def test_less(self):
        self.assertIs(is_less((1, 3), (1, 2)), True)
        self.assertIs(is_less((1, 2), (1, 3)), False)
        self.assertIs(is_less((1, 2), (1, 2)), False)
        self.assertIs(is_less((9998, 9999), (9999, 10000)), True)

    def test_between(self):
        self.assertEqual(between((0, 1), (1, 1), (2, 3)), (2, 3))
        self.assertEqual(between((1, 4), (3, 4), (1, 2)), (1, 2))
        self.assertEqual(between((1, 3), (1, 2), (1, 5)), (11, 30))

    def test_parted(self):
        self.assertEqual(WHOLE, ((0, 1), (1, 1), (0, 1), (1, 1)))
        self.assertEqual(parted(WHOLE, "across", (1, 3)),
                         (((0, 1), (1, 3), (0, 1), (1, 1)), ((1, 3), (1, 1), (0, 1), (1, 1))))
        self.assertEqual(parted(WHOLE, "down", (1, 3)),
                         (((0, 1), (1, 1), (0, 1), (1, 3)), ((0, 1), (1, 1), (1, 3), (1, 1))))

    def test_bounded(self):
        self.assertIs(is_bounded(WHOLE), True)
        for side in range(4):
            for bottom, wanted in [(10000, True), (10001, False)]:
                self.assertIs(is_bounded(WHOLE[:side] + ((1, bottom),) + WHOLE[side + 1:]), wanted)


if __name__ == "__main__":
    unittest.main()
