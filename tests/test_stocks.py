import copy
import unittest

from brushedsigns.errors import BadName, BadStock
from brushedsigns.stocks import is_stock, kind_of, sorts_of
from tests.things import (
    DOT, EqualToAll, FRAME, HOLE, LINE, OTHER, PART, STOCK, Stubborn, frame, objects, part, with_each, with_lists)

NAMES = ["a", "z", "a1", "z9", "a0000000", "abcdefgh", "x23456789"[:8]]
NO_NAMES = [
    "", "abcdefghi", "1", "0a", "A", "aB", "a b", "a ", " a", "a\n", "\na", "a\t", "a-", "a_", "_a", "a.", "~", "a/b", "`",
    "{", "a:", "@", "a@", None, True, 1, b"a", ["a"], ("a",), EqualToAll(), Stubborn(),
]


def of_part(entry):
    return ((entry,), ())


def of_frame(entry):
    return ((PART,), (entry,))


def of_strokes(strokes):
    return of_part(part("a", "k", strokes))


def of_points(points):
    return of_strokes((("line", points),))


def of_hole(hole):
    return of_frame(frame("f", hole=hole))


def of_last(last, strokes=3):
    return of_frame(frame("f", strokes=(LINE,) * strokes, last=last))


POINT = ((0, 1), (1, 1))


class IsStock(unittest.TestCase):
    def check(self, thing, wanted):
        self.assertIs(is_stock(thing), wanted, thing)

    def test_stocks(self):
        self.check(STOCK, True)
        self.check(((PART,), ()), True)
        self.check(((PART, OTHER), (FRAME, frame("g"))), True)

    def test_any_object(self):
        for thing in objects():
            self.check(thing, False)

    def test_one_and_twelve_parts(self):
        parts = tuple(part(f"a{k}") for k in range(13))
        self.check(((), ()), False)
        self.check(((), (FRAME,)), False)
        self.check((parts[:1], ()), True)
        self.check((parts[:12], ()), True)
        self.check((parts, ()), False)

    def test_none_to_six_frames(self):
        frames = tuple(frame(f"f{k}") for k in range(7))
        self.check(((PART,), ()), True)
        self.check(((PART,), frames[:6]), True)
        self.check(((PART,), frames), False)
        parts = tuple(part(f"a{k}") for k in range(12))
        self.check((parts, frames[:6]), True)

    def test_length_of_the_tuples(self):
        self.check(((PART,),), False)
        self.check(((PART,), (), ()), False)
        self.check(of_part(PART[:2]), False)
        self.check(of_part(PART + (0,)), False)
        self.check(of_part(FRAME), False)
        self.check(of_frame(FRAME[:4]), False)
        self.check(of_frame(FRAME + (0,)), False)
        self.check(of_frame(("f", "k", (LINE,))), False)
        self.check(of_strokes((LINE[:1],)), False)
        self.check(of_strokes((LINE + (0,),)), False)

    def test_names_wherever_they_stand(self):
        for name in NAMES:
            self.check(((part("q"), (name, name, ((name, LINE[1]),))), ()), True)
            self.check(of_frame(("q", name, ((name, LINE[1]),), HOLE, 1)), True)
            self.check(((part("q"),), (frame(name),)), True)
        for name in NO_NAMES:
            self.check(of_part(part(name)), False)
            self.check(of_part(part("a", name)), False)
            self.check(of_strokes(((name, LINE[1]),)), False)
            self.check(of_frame(frame(name)), False)
            self.check(of_frame(frame("f", name)), False)
            self.check(of_frame(frame("f", strokes=((name, LINE[1]),))), False)

    def test_no_name_twice(self):
        self.check(((part("a"), part("a", "other")), ()), False)
        self.check(((part("a"), part("b"), part("a")), ()), False)
        self.check(((part("a"),), (frame("f"), frame("f"))), False)
        self.check(((part("a"),), (frame("a"),)), False)
        self.check(((part("a"), part("b")), (frame("f"), frame("b"))), False)

    def test_kinds_and_sorts_may_stand_twice(self):
        self.check(((part("a", "a"), part("b", "a")), (frame("f", "a"),)), True)
        self.check(of_strokes((LINE, LINE)), True)

    def test_one_to_eight_strokes(self):
        for make in (lambda strokes: of_part(part("a", "k", strokes)), lambda strokes: of_frame(frame("f", "k", strokes))):
            self.check(make(()), False)
            self.check(make((LINE,)), True)
            self.check(make((LINE,) * 8), True)
            self.check(make((LINE,) * 9), False)
            self.check(make((LINE, None)), False)

    def test_two_to_six_points(self):
        self.check(of_points(()), False)
        self.check(of_points((POINT,)), False)
        self.check(of_points((POINT,) * 2), True)
        self.check(of_points((POINT,) * 6), True)
        self.check(of_points((POINT,) * 7), False)
        self.check(of_points((POINT, POINT[:1])), False)
        self.check(of_points((POINT, POINT + ((0, 1),))), False)

    def test_fractions(self):
        for good in [(0, 1), (1, 1), (1, 2), (2, 3), (1, 10000), (9999, 10000), (9998, 9999)]:
            self.check(of_points((POINT, (good, (0, 1)))), True)
            self.check(of_points((POINT, ((0, 1), good))), True)
        for bad in [
                (0, 2), (2, 2), (2, 4), (5, 10000), (1, 10001), (10000, 10001), (-1, 2), (1, -2), (-1, -2), (0, -1), (3, 2),
                (2, 1), (0, 0), (1, 0), (1,), (1, 2, 1), (), (True, 2), (1, True), (False, 1), (False, True), ("1", "2"),
                (None, 1), (0, None), [1, 2], 0, 1, True, "1/2", None, EqualToAll(), (EqualToAll(), EqualToAll())]:
            self.check(of_points((POINT, (bad, (0, 1)))), False)
            self.check(of_points((POINT, ((0, 1), bad))), False)
            for side in range(4):
                self.check(of_hole(HOLE[:side] + (bad,) + HOLE[side + 1:]), False)

    def test_holes(self):
        low, high = (0, 1), (1, 1)
        self.check(of_hole((low, high, low, high)), True)
        self.check(of_hole(((9998, 9999), (9999, 10000), (1, 10000), (1, 9999))), True)
        self.check(of_hole(((9999, 10000), (9998, 9999), (1, 10000), (1, 9999))), False)
        self.check(of_hole(((9998, 9999), (9999, 10000), (1, 9999), (1, 10000))), False)
        self.check(of_hole(((1, 10), (1, 9), (1, 10), (1, 9))), True)
        self.check(of_hole(((1, 3), (1, 3), low, high)), False)
        self.check(of_hole((low, high, (1, 3), (1, 3))), False)
        self.check(of_hole(((3, 4), (1, 4), low, high)), False)
        self.check(of_hole((low, high, (3, 4), (1, 4))), False)
        self.check(of_hole(((2, 3), (3, 4), low, high)), True)
        self.check(of_hole(((3, 4), (2, 3), low, high)), False)
        self.check(of_hole((low, high, low)), False)
        self.check(of_hole((low, high, low, high, high)), False)
        self.check(of_hole((low, (1, 10001), low, high)), False)

    def test_last(self):
        for strokes in (1, 3, 8):
            self.check(of_last(0, strokes), True)
            self.check(of_last(strokes, strokes), True)
            self.check(of_last(strokes + 1, strokes), False)
            self.check(of_last(-1, strokes), False)
        for bad in [True, False, None, "0", (), [0], (0,), EqualToAll()]:
            self.check(of_last(bad), False)

    def test_no_list_at_any_depth(self):
        changed = with_lists(STOCK)
        self.assertGreater(len(changed), 30)
        for thing in changed:
            self.check(thing, False)

    def test_no_other_object_at_any_place(self):
        for thing in with_each(STOCK, lambda entry: [None, (), [], EqualToAll(), Stubborn(), b"a"]):
            self.check(thing, False)

    def test_no_bool_where_integers_stand(self):
        changed = with_each(STOCK, lambda entry: [bool(entry)] if entry in (0, 1) else [])
        self.assertGreater(len(changed), 10)
        for thing in changed:
            self.check(thing, False)


class KindsAndSorts(unittest.TestCase):
    def test_parts_and_frames(self):
        self.assertEqual(kind_of(STOCK, "a"), "ka")
        self.assertEqual(kind_of(STOCK, "b"), "kb")
        self.assertEqual(kind_of(STOCK, "f"), "kf")
        self.assertEqual(sorts_of(STOCK, "a"), ("line",))
        self.assertEqual(sorts_of(STOCK, "b"), ("dot", "line"))
        self.assertEqual(sorts_of(STOCK, "f"), ("line", "dot", "line"))
        self.assertIs(sorts_of(STOCK, "a").__class__, tuple)

    def test_the_last_of_many(self):
        parts = tuple(part(f"a{k}", f"k{k}") for k in range(12))
        frames = tuple(frame(f"f{k}", f"l{k}", (DOT,) * (k + 1)) for k in range(6))
        self.assertEqual(kind_of((parts, frames), "a11"), "k11")
        self.assertEqual(kind_of((parts, frames), "f5"), "l5")
        self.assertEqual(sorts_of((parts, frames), "f5"), ("dot",) * 6)

    def test_by_the_names_of_the_parameters(self):
        self.assertIs(is_stock(thing=STOCK), True)
        self.assertEqual(kind_of(stock=STOCK, name="a"), "ka")
        self.assertEqual(sorts_of(name="b", stock=STOCK), ("dot", "line"))

    def test_bad_name(self):
        for name in objects() + NO_NAMES + ["c", "ka", "kf", "line", "g", PART, FRAME]:
            with self.assertRaises(BadName):
                kind_of(STOCK, name)
            with self.assertRaises(BadName):
                sorts_of(STOCK, name)

    def test_bad_stock(self):
        for stock in objects() + [of_points((POINT,)), ((PART, PART), ()), ((PART,), (frame("a"),)), of_last(4)]:
            with self.assertRaises(BadStock):
                kind_of(stock, "a")
            with self.assertRaises(BadStock):
                sorts_of(stock, "a")

    def test_bad_stock_ahead_of_bad_name(self):
        for name in (None, "c", ""):
            with self.assertRaises(BadStock):
                kind_of(None, name)
            with self.assertRaises(BadStock):
                sorts_of([list(STOCK[0]), []], name)

    def test_nothing_is_changed(self):
        listed = [[list(PART)], []]
        before = copy.deepcopy(listed)
        is_stock(listed)
        for function in (kind_of, sorts_of):
            with self.assertRaises(BadStock):
                function(listed, "a")
        self.assertEqual(listed, before)


if __name__ == "__main__":
    unittest.main()
