import random
import unittest
from fractions import Fraction
from itertools import permutations

from brushedsigns.errors import BadPath, BadPicture, BadSign, BadWord
from brushedsigns.pictures import (
    box_at, content_at, is_picture, level_at, mirrored, moved_path, paths_of, picture_of, turned_over, turned_side)
from tests import oracles
from tests.drawn import (
    BARRED, FRAMED, ONE, PICTURE_OF_X, WHEEL, box, cell, columns, drawn, framed_picture, grid, side, with_content)
from tests.oracles import WHOLE
from tests.test_signs import is_kept, some_signs
from tests.things import (
    A, B, C, D, EqualToAll, HALF, STOCK, Stubborn, X, balanced, framed, objects, row, with_each, with_lists)

PICTURES = [ONE, PICTURE_OF_X, WHEEL, FRAMED, BARRED, grid(3, 4), columns([1], [], [2, 3])]
WORDS = {"mirrored": mirrored, "turned_over": turned_over, "turned_side": turned_side}


def some_pictures(many, seed=7):
    chance = random.Random(seed)
    return [oracles.picture_by_chance(chance, chance.randint(1, 12)) for _ in range(many)]


def no_paths(picture):
    """Objects that are no path of the picture."""
    known = [repr(path) for path in oracles.paths(picture)]
    backward = [(path[0] - len(picture),) + path[1:] for path in oracles.paths(picture)]
    found = [thing for thing in objects() if repr(thing) not in known]
    found += [(-1,), (len(picture),), (10 ** 20,), (None,), ("0",), (EqualToAll(),), (Stubborn(),), ((0,),), [0], 0, "0",
              (False,), (True,), [(0,)]] + backward
    for path in oracles.paths(picture):
        found += [list(path), path + (-1,), path + (12,), (path[0] - 12,) + path[1:], (path[0] + 12,) + path[1:], path[:-1] + (True,), path[:-1] + (False,), path + (None,)]
        if path + (0,) not in oracles.paths(picture):
            found += [path + (0,), path + (0, 0)]
    return found


class IsPicture(unittest.TestCase):
    def check(self, thing, wanted):
        self.assertIs(is_picture(thing), wanted, thing)

    def test_pictures(self):
        for picture in PICTURES + some_pictures(200):
            self.check(picture, True)

    def test_any_object(self):
        for thing in objects() + [STOCK, X, A, "part a", WHOLE, PICTURE_OF_X[0], list(PICTURE_OF_X), (PICTURE_OF_X,)]:
            self.check(thing, False)

    def test_no_list_at_any_depth(self):
        for picture in (PICTURE_OF_X, FRAMED):
            for thing in with_lists(picture):
                self.check(thing, False)

    def test_no_other_object_at_any_place(self):
        others = [None, True, False, (), [], -1, 7, "A", b"a", EqualToAll(), Stubborn()]
        for picture in (PICTURE_OF_X, FRAMED):
            for thing in with_each(picture, lambda entry: others):
                self.check(thing, False)

    def test_lengths_of_cells(self):
        self.check((WHOLE,), False)
        self.check((WHOLE + (A, A),), False)
        self.check((WHOLE[:3] + (A,),), False)
        self.check(((0, 1) + (A,),), False)

    def test_contents(self):
        for content in [
                A, ("part", "abcdefgh"), ("part", "within"), ("within", "a", ONE), ("within", "f", WHEEL),
                ("within", "f", framed_picture(ONE))]:
            self.check((WHOLE + (content,),), True)
        for content in [
                ("part",), ("part", "A"), ("part", "abcdefghi"), ("part", ""), ("part", "a", ONE), ("part", "a", "b"),
                ("frame", "f"), ("frame", "f", ONE), ("within", "f"), ("within", "f", A), ("within", "f", ()),
                ("within", "f", ONE, ONE), ("within", ONE), ("within", ONE, "f"), ("within", "f", ONE[0]), "a", "part",
                ("a", "part"), X, ("within", "f", list(ONE)), ("within", "1f", ONE), ("", "a"), (EqualToAll(), "a"),
                (EqualToAll(), "f", ONE), ("within", "f", EqualToAll())]:
            self.check((WHOLE + (content,),), False)

    def test_no_cell_and_one_and_twelve_and_thirteen(self):
        self.check((), False)
        for many, wanted in [(1, True), (2, True), (12, True), (13, False)]:
            picture = tuple(cell(f"{k}/{many} {k + 1}/{many} 0 1") for k in range(many))
            self.check(picture, wanted)
            self.check(framed_picture(picture), wanted and many < 12)

    def test_twelve_and_thirteen_parts_and_frames(self):
        for many in range(1, 11):
            ahead = [cell(f"{k}/12 {k + 1}/12 0 1") for k in range(many)]
            for inner in range(9, 14):
                within = tuple(cell(f"0 1 {k}/{inner} {k + 1}/{inner}") for k in range(inner))
                last = cell(f"{many}/12 1 0 1", ("within", "f", within))
                self.check(tuple(ahead) + (last,), many + 1 + inner <= 12)
        within = ("within", "f", columns([], [], []))
        for one, other, last in permutations(range(4), 3):
            picture = with_content(PICTURE_OF_X, one, within)
            self.check(picture, True)
            picture = with_content(picture, other, within)
            self.check(picture, True)
            self.check(with_content(picture, last, ("within", "f", ONE)), True)
            self.check(with_content(picture, last, within), False)

    def test_twelve_and_thirteen_pictures_within_one_another(self):
        picture = ONE
        for deep in range(1, 16):
            self.check(picture, deep <= 12)
            picture = framed_picture(picture)

    def test_a_picture_often_in_itself(self):
        picture = ONE
        for _ in range(40):
            picture = with_content(with_content(PICTURE_OF_X, 0, ("within", "f", picture)), 3, ("within", "f", picture))
        self.check(picture, False)

    def test_bottoms(self):
        for low in (1, 9999):
            self.check(drawn(cell(f"0 {low}/10000 0 1"), cell(f"{low}/10000 1 0 1")), True)
            self.check(drawn(cell(f"0 1 0 {low}/10000"), cell(f"0 1 {low}/10000 1")), True)
            self.check(drawn(cell(f"0 {low}/10001 0 1"), cell(f"{low}/10001 1 0 1")), False)
            self.check(drawn(cell(f"0 1 0 {low}/10001"), cell(f"0 1 {low}/10001 1")), False)

    def test_fractions_that_are_near(self):
        picture = drawn(cell("0 9998/9999 0 1"), cell("9998/9999 9999/10000 0 1"), cell("9999/10000 1 0 1"))
        self.check(picture, True)
        self.check(drawn(cell("0 9998/9999 0 1"), cell("9999/10000 1 0 1")), False)
        self.check(drawn(cell("0 9999/10000 0 1"), cell("9998/9999 1 0 1")), False)

    def test_fractions_that_are_none(self):
        for left in [(0, 2), (2, 4), (-1, 2), (3, 2), (1, 1), (False, 1), (0, True), 0, "0", None, [0, 1], (0,), (0, 1, 1)]:
            self.check(((left,) + WHOLE[1:] + (A,),), False)
        halves = (cell("0 1/2 0 1"), cell("1/2 1 0 1"))
        self.check(halves, True)
        self.check((((0, 1), (2, 4), (0, 1), (1, 1), A), halves[1]), False)
        self.check((halves[0], ((2, 4), (1, 1), (0, 1), (1, 1), A)), False)
        self.check(tuple(part[:1] + part[1:2] + ((0, 1), (2, 2), A) for part in halves), False)

    def test_sides_in_the_wrong_sequence(self):
        for text in ["1 0 0 1", "0 1 1 0", "0 0 0 1", "1 1 0 1", "0 1 1/2 1/2"]:
            self.check((cell(text),), False)
            self.check(drawn(cell("0 1 0 1"), cell(text)), False)

    def test_cells_that_leave_a_hole(self):
        for text in ["0 1/2 0 1", "1/2 1 0 1", "0 1 0 1/2", "0 1 1/2 1", "1/4 3/4 0 1", "0 9999/10000 0 1"]:
            self.check((cell(text),), False)
        for picture in (PICTURE_OF_X, WHEEL, FRAMED, grid(3, 4)):
            for at in range(len(picture)):
                self.check(picture[:at] + picture[at + 1:], False)
        self.check(drawn(cell("0 1/3 0 1"), cell("2/3 1 0 1")), False)
        self.check(drawn(cell("0 1/2 0 1/2"), cell("1/2 1 1/2 1")), False)
        # What is left out here and what is there twice have the same area.
        self.check(drawn(cell("0 1/2 0 1"), cell("1/4 3/4 0 1")), False)
        self.check(drawn(cell("0 2/3 0 1"), cell("1/3 2/3 0 1")), False)
        self.check(drawn(PICTURE_OF_X[0], *PICTURE_OF_X[:2], PICTURE_OF_X[3]), False)
        self.check(drawn(cell("0 2/3 0 1/2"), cell("1/3 1 0 1/2"), cell("0 2/3 1/2 1")), False)

    def test_cells_that_overlap(self):
        self.check(ONE + ONE, False)
        self.check(drawn(ONE[0], cell("0 1/2 0 1")), False)
        self.check(drawn(cell("0 2/3 0 1"), cell("1/3 1 0 1")), False)
        self.check(drawn(cell("0 1 0 2/3"), cell("0 1 1/3 1")), False)
        self.check(drawn(*PICTURE_OF_X, cell("1/4 3/4 1/4 3/4")), False)
        self.check(drawn(*PICTURE_OF_X, PICTURE_OF_X[2]), False)
        for at in range(5):
            self.check(drawn(*WHEEL, WHEEL[at][:4] + (C,)), False)

    def test_cells_that_reach_beyond_the_box(self):
        self.check((cell("0 2 0 1"),), False)
        self.check((cell("-1 1 0 1"),), False)
        self.check((cell("0 1 0 3/2"),), False)
        self.check(drawn(*ONE, cell("1 2 0 1")), False)
        self.check(drawn(cell("-1 0 0 1"), *ONE), False)

    def test_cells_out_of_sequence(self):
        for picture in (PICTURE_OF_X, WHEEL, FRAMED, grid(2, 3)):
            self.check(picture[::-1], False)
            for at in range(len(picture) - 1):
                self.check(picture[:at] + (picture[at + 1], picture[at]) + picture[at + 2:], False)
        self.check(framed_picture(PICTURE_OF_X[::-1]), False)

    def test_they_ascend_as_numbers_and_not_as_tuples(self):
        thirds = [cell("0 1/3 0 1"), cell("1/3 1/2 0 1"), cell("1/2 1 0 1")]
        self.check(tuple(thirds), True)
        self.assertLess(thirds[2], thirds[1])
        self.check((thirds[0], thirds[2], thirds[1]), False)
        rows = [cell("0 1 0 1/3"), cell("0 1 1/3 1/2"), cell("0 1 1/2 1")]
        self.check(tuple(rows), True)
        self.check((rows[0], rows[2], rows[1]), False)

    def test_pictures_that_no_sign_has(self):
        self.check(WHEEL, True)
        self.check(framed_picture(WHEEL), True)
        self.check(BARRED, True)
        self.check(mirrored(WHEEL), True)


class PictureOf(unittest.TestCase):
    def test_the_example(self):
        self.assertEqual(picture_of(X), PICTURE_OF_X)

    def test_each_word(self):
        self.assertEqual(picture_of(A), (((0, 1), (1, 1), (0, 1), (1, 1), A),))
        self.assertEqual(picture_of(("across", (1, 3), A, B)), (cell("0 1/3 0 1", A), cell("1/3 1 0 1", B)))
        self.assertEqual(picture_of(("down", (1, 3), A, B)), (cell("0 1 0 1/3", A), cell("0 1 1/3 1", B)))
        self.assertEqual(picture_of(("within", "f", X)), (WHOLE + (("within", "f", PICTURE_OF_X),),))

    def test_a_picture_within_is_told_by_its_own_box(self):
        sign = ("across", (1, 3), A, ("down", (1, 4), B, ("within", "f", X)))
        self.assertEqual(picture_of(sign), (
            cell("0 1/3 0 1", A), cell("1/3 1 0 1/4", B), cell("1/3 1 1/4 1", ("within", "f", PICTURE_OF_X))))

    def test_drawn_together(self):
        sign = ("across", (2, 3), ("across", (1, 4), A, ("down", (1, 5), B, C)), ("across", (1, 3), D, A))
        self.assertEqual(picture_of(sign), (
            cell("0 1/6 0 1", A), cell("1/6 2/3 0 1/5", B), cell("1/6 2/3 1/5 1", C), cell("2/3 7/9 0 1", D),
            cell("7/9 1 0 1", A)))

    def test_the_same_cross_across_first_and_down_first(self):
        other = ("down", HALF, ("across", HALF, A, C), ("across", HALF, B, D))
        self.assertNotEqual(other, X)
        self.assertEqual(picture_of(other), PICTURE_OF_X)

    def test_the_same_row_with_other_brackets(self):
        for word in ("across", "down"):
            one = (word, (1, 3), A, (word, HALF, B, C))
            other = (word, (2, 3), (word, HALF, A, B), C)
            self.assertEqual(picture_of(one), picture_of(other))
            self.assertNotEqual(picture_of(one), picture_of((word, HALF, A, (word, HALF, B, C))))

    def test_cells_ascend_as_numbers(self):
        picture = picture_of(("across", HALF, ("across", (2, 3), A, B), C))
        self.assertEqual(picture, (cell("0 1/3 0 1", A), cell("1/3 1/2 0 1", B), cell("1/2 1 0 1", C)))

    def test_the_greatest_bottoms(self):
        great = ("across", (9999, 10000), ("across", (50000000, 99980001), A, B), C)
        self.assertEqual(picture_of(great), (
            cell("0 5000/9999 0 1", A), cell("5000/9999 9999/10000 0 1", B), cell("9999/10000 1 0 1", C)))

    def test_signs_by_chance(self):
        signs = [sign for sign in some_signs(500) if is_kept(sign)]
        for sign in signs + [row(12), row(12, "down"), framed(11), balanced(12)]:
            self.assertEqual(picture_of(sign), oracles.picture_by(sign))
            self.assertIs(is_picture(picture_of(sign)), True)

    def test_bad_sign(self):
        for thing in objects() + with_lists(X) + [row(13), framed(12), PICTURE_OF_X]:
            with self.assertRaises(BadSign):
                picture_of(thing)


class Paths(unittest.TestCase):
    def test_paths(self):
        self.assertEqual(paths_of(ONE), ((0,),))
        self.assertEqual(paths_of(PICTURE_OF_X), ((0,), (1,), (2,), (3,)))
        self.assertEqual(paths_of(FRAMED), ((0,), (1,), (1, 0), (1, 1), (1, 2), (1, 3), (2,)))
        self.assertEqual(paths_of(framed_picture(framed_picture(ONE))), ((0,), (0, 0), (0, 0, 0)))
        self.assertEqual(paths_of(grid(1, 12)), tuple((index,) for index in range(12)))

    def test_paths_by_chance(self):
        for picture in PICTURES + some_pictures(100):
            self.assertEqual(paths_of(picture), tuple(oracles.paths(picture)))

    def test_content(self):
        self.assertEqual(content_at(FRAMED, (0,)), A)
        self.assertEqual(content_at(FRAMED, (1,)), ("frame", "f"))
        self.assertEqual(content_at(FRAMED, (1, 0)), A)
        self.assertEqual(content_at(FRAMED, (1, 3)), D)
        self.assertEqual(content_at(FRAMED, (2,)), B)
        self.assertEqual(content_at(framed_picture(FRAMED, "g"), (0,)), ("frame", "g"))
        self.assertEqual(content_at(framed_picture(FRAMED, "g"), (0, 1, 2)), C)

    def test_box(self):
        self.assertEqual(box_at(FRAMED, (1,)), box("1/3 2/3 0 1"))
        self.assertEqual(box_at(FRAMED, (1, 2)), box("1/2 1 0 1/2"))
        self.assertEqual(box_at(FRAMED, (2,)), box("2/3 1 0 1"))
        self.assertEqual(box_at(framed_picture(FRAMED), (0,)), WHOLE)
        self.assertEqual(box_at(framed_picture(FRAMED), (0, 1, 1)), box("0 1/2 1/2 1"))

    def test_level(self):
        self.assertEqual(level_at(FRAMED, ()), FRAMED)
        self.assertEqual(level_at(FRAMED, (1,)), PICTURE_OF_X)
        self.assertEqual(level_at(framed_picture(FRAMED), ()), framed_picture(FRAMED))
        self.assertEqual(level_at(framed_picture(FRAMED), (0,)), FRAMED)
        self.assertEqual(level_at(framed_picture(FRAMED), (0, 1)), PICTURE_OF_X)
        self.assertEqual(level_at(BARRED, (1,)), WHEEL)

    def test_by_chance(self):
        for picture in some_pictures(100):
            for path, level in oracles.levels(picture):
                self.assertEqual(level_at(picture, path), level)
                for index, entry in enumerate(level):
                    at = path + (index,)
                    self.assertEqual(box_at(picture, at), entry[:4])
                    told = ("frame" if entry[4][0] == "within" else "part", entry[4][1])
                    self.assertEqual(content_at(picture, at), told)
                    if told[0] == "part":
                        with self.assertRaises(BadPath):
                            level_at(picture, at)

    def test_bad_path(self):
        for picture in (ONE, PICTURE_OF_X, FRAMED, framed_picture(FRAMED)):
            for path in no_paths(picture) + [()]:
                for function in (content_at, box_at):
                    with self.assertRaises(BadPath, msg=path):
                        function(picture, path)
                if not isinstance(path, tuple) or path:
                    with self.assertRaises(BadPath, msg=path):
                        level_at(picture, path)

    def test_the_path_of_a_part_has_no_level(self):
        for path in [(0,), (2,), (1, 0), (1, 3)]:
            with self.assertRaises(BadPath):
                level_at(FRAMED, path)


class Turned(unittest.TestCase):
    def test_mirrored(self):
        self.assertEqual(mirrored(columns([1], [], [2, 3])), drawn(
            cell("2/3 1 0 1/6", A), cell("2/3 1 1/6 1", B), cell("1/3 2/3 0 1", C), cell("0 1/3 0 1/3", D),
            cell("0 1/3 1/3 1/2", ("part", "e")), cell("0 1/3 1/2 1", ("part", "f"))))

    def test_turned_over(self):
        self.assertEqual(turned_over(columns([1], [], [2, 3])), drawn(
            cell("0 1/3 5/6 1", A), cell("0 1/3 0 5/6", B), cell("1/3 2/3 0 1", C), cell("2/3 1 2/3 1", D),
            cell("2/3 1 1/2 2/3", ("part", "e")), cell("2/3 1 0 1/2", ("part", "f"))))

    def test_turned_side(self):
        self.assertEqual(turned_side(columns([1], [], [2, 3])), drawn(
            cell("0 1/6 0 1/3", A), cell("1/6 1 0 1/3", B), cell("0 1 1/3 2/3", C), cell("0 1/3 2/3 1", D),
            cell("1/3 1/2 2/3 1", ("part", "e")), cell("1/2 1 2/3 1", ("part", "f"))))

    def test_within_frames(self):
        def inner(*contents):
            return tuple(entry[:4] + (content,) for entry, content in zip(PICTURE_OF_X, contents))
        for turned, within, wanted in [
                (mirrored, inner(C, D, A, B), ("2/3 1 0 1", "1/3 2/3 0 1", "0 1/3 0 1")),
                (turned_over, inner(B, A, D, C), ("0 1/3 0 1", "1/3 2/3 0 1", "2/3 1 0 1")),
                (turned_side, inner(A, C, B, D), ("0 1 0 1/3", "0 1 1/3 2/3", "0 1 2/3 1"))]:
            self.assertEqual(turned(FRAMED), drawn(
                cell(wanted[0], A), cell(wanted[1], ("within", "f", within)), cell(wanted[2], B)))
            deeper = level_at(turned(framed_picture(framed_picture(FRAMED))), (0, 0))
            self.assertEqual(deeper, turned(FRAMED))

    def test_the_moved_cells(self):
        moves = {
            "mirrored": lambda left, right, upper, lower: (1 - right, 1 - left, upper, lower),
            "turned_over": lambda left, right, upper, lower: (left, right, 1 - lower, 1 - upper),
            "turned_side": lambda left, right, upper, lower: (upper, lower, left, right)}
        for picture in PICTURES + some_pictures(60):
            for word, function in WORDS.items():
                turned = function(picture)
                self.assertIs(is_picture(turned), True)
                paths = [moved_path(picture, word, path) for path in paths_of(picture)]
                self.assertEqual(sorted(paths), list(paths_of(turned)))
                for path, other in zip(paths_of(picture), paths):
                    self.assertEqual(content_at(turned, other), content_at(picture, path))
                    sides = moves[word](*[Fraction(*number) for number in box_at(picture, path)])
                    self.assertEqual(box_at(turned, other), oracles.told_box(sides))

    def test_each_of_the_three_twice(self):
        for picture in PICTURES + some_pictures(60):
            for function in WORDS.values():
                self.assertEqual(function(function(picture)), picture)
            self.assertEqual(mirrored(turned_over(picture)), turned_over(mirrored(picture)))
            self.assertEqual(turned_side(mirrored(picture)), turned_over(turned_side(picture)))

    def test_paths_forth_and_back(self):
        for picture in PICTURES + some_pictures(60):
            for word, function in WORDS.items():
                for path in paths_of(picture):
                    there = moved_path(picture, word, path)
                    self.assertEqual(moved_path(function(picture), word, there), path)
                    self.assertEqual(moved_path(picture, word, path)[:-1],
                                     moved_path(picture, word, path[:-1]) if len(path) > 1 else ())

    def test_some_paths(self):
        self.assertEqual(moved_path(PICTURE_OF_X, "mirrored", (0,)), (2,))
        self.assertEqual(moved_path(PICTURE_OF_X, "turned_over", (0,)), (1,))
        self.assertEqual(moved_path(PICTURE_OF_X, "turned_side", (1,)), (2,))
        self.assertEqual(moved_path(PICTURE_OF_X, "turned_side", (0,)), (0,))
        self.assertEqual(moved_path(FRAMED, "mirrored", (0,)), (2,))
        self.assertEqual(moved_path(FRAMED, "mirrored", (1, 0)), (1, 2))
        self.assertEqual(moved_path(FRAMED, "turned_over", (1, 0)), (1, 1))
        self.assertEqual(moved_path(FRAMED, "turned_side", (1, 1)), (1, 2))

    def test_the_greatest_bottoms(self):
        picture = drawn(cell("0 1/10000 0 1", A), cell("1/10000 1 0 1", B))
        self.assertEqual(mirrored(picture), drawn(cell("9999/10000 1 0 1", A), cell("0 9999/10000 0 1", B)))
        self.assertEqual(turned_over(turned_side(picture)),
                         drawn(cell("0 1 9999/10000 1", A), cell("0 1 0 9999/10000", B)))

    def test_bad_word(self):
        for word in objects() + ["left", "mirror", "Mirrored", "turned", "turned_sid", "across", ("mirrored",), ["mirrored"]]:
            with self.assertRaises(BadWord):
                moved_path(FRAMED, word, (0,))
            with self.assertRaises(BadWord):
                moved_path(FRAMED, word, (9,))

    def test_bad_path(self):
        for word in WORDS:
            for path in no_paths(FRAMED) + [()]:
                with self.assertRaises(BadPath):
                    moved_path(FRAMED, word, path)


class BadPictures(unittest.TestCase):
    def test_bad_picture(self):
        things = objects() + with_lists(PICTURE_OF_X) + [
            X, PICTURE_OF_X[::-1], PICTURE_OF_X[:3], framed_picture(grid(3, 4)), drawn(*WHEEL, WHEEL[4])]
        for thing in things:
            for function in (paths_of, mirrored, turned_over, turned_side):
                with self.assertRaises(BadPicture):
                    function(thing)
            for function in (content_at, box_at, level_at):
                for path in [(0,), (), None]:
                    with self.assertRaises(BadPicture):
                        function(thing, path)
            for word in ["mirrored", "left"]:
                with self.assertRaises(BadPicture):
                    moved_path(thing, word, (0,))

    def test_sides(self):
        self.assertEqual(side("2/4"), (1, 2))


if __name__ == "__main__":
    unittest.main()
