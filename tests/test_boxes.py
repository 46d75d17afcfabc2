import unittest

from brushedsigns.boxes import WHOLE, box_key, drawn_into, is_bounded, is_box, lies_in, overlap, parted, parted_at, share_at
from tests.drawn import box
from tests.things import EqualToAll, Stubborn, with_each, with_lists


class Boxes(unittest.TestCase):
    def test_any_object(self):
        for thing in [WHOLE, box("1/3 1/2 0 1"), box("0 1/10000 9999/10000 1")]:
            self.assertIs(is_box(thing), True)
        for thing in [None, (), WHOLE[:3], WHOLE + ((0, 1),), EqualToAll(), Stubborn(), box("1/2 1/2 0 1"),
                      box("1/2 1/3 0 1"), box("0 1 1 0"), box("0 1/10001 0 1"), box("-1/2 1 0 1"), box("0 3/2 0 1")]:
            self.assertIs(is_box(thing), False)
        for thing in with_lists(WHOLE) + with_each(WHOLE, lambda entry: [True, False, None, "1", EqualToAll()]):
            self.assertIs(is_box(thing), False)

    def test_bounded(self):
        self.assertIs(is_bounded(WHOLE), True)
        for side in range(4):
            for bottom, wanted in [(10000, True), (10001, False)]:
                self.assertIs(is_bounded(WHOLE[:side] + ((1, bottom),) + WHOLE[side + 1:]), wanted)

    def test_keys_compare_as_numbers(self):
        boxes = [box("0 1/3 0 1"), box("0 1/2 0 1/10000"), box("0 1/2 0 1/9999"), box("1/3 1/2 0 1"), box("1/2 1 0 1")]
        self.assertEqual(sorted(reversed(boxes), key=box_key), boxes)

    def test_within_and_overlapping(self):
        outer = box("1/4 3/4 1/4 3/4")
        for text, within, over in [
                ("1/4 3/4 1/4 3/4", True, True), ("1/3 1/2 1/3 1/2", True, True), ("1/4 1/2 1/4 1/2", True, True),
                ("0 1/2 1/4 1/2", False, True), ("1/2 1 1/4 1/2", False, True), ("1/4 1/2 0 1/2", False, True),
                ("1/4 1/2 1/2 1", False, True), ("0 1 0 1", False, True), ("0 1/4 0 1", False, False),
                ("3/4 1 0 1", False, False), ("0 1 0 1/4", False, False), ("0 1 3/4 1", False, False),
                ("0 1/4 0 1/4", False, False)]:
            self.assertIs(lies_in(box(text), outer), within, text)
            self.assertIs(overlap(box(text), outer), over, text)
            self.assertIs(overlap(outer, box(text)), over, text)

    def test_parted(self):
        self.assertEqual(WHOLE, ((0, 1), (1, 1), (0, 1), (1, 1)))
        self.assertEqual(parted(WHOLE, "across", (1, 3)), (box("0 1/3 0 1"), box("1/3 1 0 1")))
        self.assertEqual(parted(WHOLE, "down", (1, 3)), (box("0 1 0 1/3"), box("0 1 1/3 1")))
        self.assertEqual(parted(box("1/2 1 1/3 1"), "across", (1, 2)), (box("1/2 3/4 1/3 1"), box("3/4 1 1/3 1")))
        self.assertEqual(parted(box("1/2 1 1/3 1"), "down", (1, 2)), (box("1/2 1 1/3 2/3"), box("1/2 1 2/3 1")))

    def test_drawn_into(self):
        inner, region = box("1/3 1 1/4 1/2"), box("1/2 1 1/3 1")
        self.assertEqual(drawn_into(inner, WHOLE), inner)
        self.assertEqual(drawn_into(WHOLE, region), region)
        self.assertEqual(drawn_into(inner, region), box("2/3 1 1/2 2/3"))

    def test_parted_at_a_place_and_its_share(self):
        inner = box("1/2 1 1/3 1")
        self.assertEqual(parted_at(inner, "across", (3, 4)), (box("1/2 3/4 1/3 1"), box("3/4 1 1/3 1")))
        self.assertEqual(parted_at(inner, "down", (2, 3)), (box("1/2 1 1/3 2/3"), box("1/2 1 2/3 1")))
        self.assertEqual(share_at(inner, "across", (5, 8)), (1, 4))
        self.assertEqual(share_at(inner, "down", (5, 6)), (3, 4))


if __name__ == "__main__":
    unittest.main()
