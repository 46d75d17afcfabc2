import random
import unittest

from brushedsigns.cuts import boxes_of, count_puttings
from brushedsigns.errors import BadBox, BadPicture, BadSigns, BadStock, TooMany
from brushedsigns.finding import (
    exchanged, found_in, least_unlike, one_part_apart, parts_in, put_in, signs_with, taken_out)
from brushedsigns.pictures import is_picture, level_at, paths_of, picture_of
from tests import finding_oracles, oracles
from tests.drawn import (
    BARRED, FRAMED, ONE, PICTURE_OF_X, WHEEL, box, cell, columns, drawn, framed_picture, grid, with_content)
from tests.oracles import WHOLE, told_box
from tests.shelf import MIXED, Z
from tests.test_cuts import no_boxes
from tests.test_pictures import some_pictures
from tests.test_strokes import no_signs
from tests.things import A, B, C, D, HALF, STOCK, X, objects, with_lists

NO_PICTURES = objects() + with_lists(PICTURE_OF_X) + [X, STOCK, PICTURE_OF_X[::-1], PICTURE_OF_X[:3], PICTURE_OF_X[0]]
ALONE = {name: (WHOLE + (("part", name),),) for name in "abcd"}
# Whole cells fill its middle row, but no cut makes it: the wheel with its cell on the left above in two.
CUT_WHEEL = drawn(cell("0 1/2 0 1/3"), cell("1/2 2/3 0 1/3"), WHEEL[0], *WHEEL[2:])
# Two columns, of which the left one is as fine as can be.
FINE = drawn(cell("0 1/2 0 1/9999", A), cell("0 1/2 1/9999 1", B), cell("1/2 1 0 1", C))
PICTURES = some_pictures(60, 91)


def row(*names):
    """The parts side by side, equally wide."""
    many = len(names)
    return drawn(*[cell(f"{at}/{many} {at + 1}/{many} 0 1", ("part", name)) for at, name in enumerate(names)])


def changed(chance, picture):
    """The picture with some cells otherwise, or one of its boxes; perhaps beyond the bounds."""
    known = sorted(oracles.all_boxes(picture))
    kind = chance.random()
    if kind < 0.4:
        index = chance.randrange(len(picture))
        content = picture[index][4]
        if content[0] == "within" and chance.random() < 0.7:
            content = content[:2] + (changed(chance, content[2]),)
        else:
            content = chance.choice([("part", "b"), ("part", "c"), ("within", "f", ALONE["a"]), ("within", "g", PICTURE_OF_X)])
        return with_content(picture, index, content)
    return finding_oracles.filled(picture, chance.choice(known), chance.choice(PICTURES))


class TakenOut(unittest.TestCase):
    def test_whole_box_and_cells(self):
        for picture in (PICTURE_OF_X, FRAMED, WHEEL, BARRED):
            self.assertEqual(taken_out(picture, WHOLE), picture)
        for index, name in enumerate("abcd"):
            self.assertEqual(taken_out(PICTURE_OF_X, PICTURE_OF_X[index][:4]), ALONE[name])
        self.assertEqual(taken_out(FRAMED, box("1/3 2/3 0 1")), framed_picture(PICTURE_OF_X))
        self.assertEqual(taken_out(BARRED, BARRED[1][:4]), framed_picture(WHEEL))

    def test_boxes_between(self):
        self.assertEqual(taken_out(PICTURE_OF_X, box("0 1/2 0 1")), picture_of(("down", HALF, A, B)))
        self.assertEqual(taken_out(PICTURE_OF_X, box("0 1 1/2 1")), picture_of(("across", HALF, B, D)))
        self.assertEqual(taken_out(FRAMED, box("1/3 1 0 1")), picture_of(("across", HALF, ("within", "f", X), B)))
        picture = drawn(cell("0 1/3 0 1"), cell("1/3 1/2 0 1/4", B), cell("1/2 1 0 1/4", C), cell("1/3 1 1/4 1", D))
        self.assertEqual(taken_out(picture, box("1/3 1 0 1")), drawn(
            cell("0 1/4 0 1/4", B), cell("1/4 1 0 1/4", C), cell("0 1 1/4 1", D)))

    def test_too_great_a_bottom(self):
        picture = drawn(cell("0 1/101 0 1"), cell("1/101 1/100 0 1", B), cell("1/100 3/4 0 1", C), cell("3/4 1 0 1", D))
        self.assertEqual(taken_out(picture, box("0 1/100 0 1")), drawn(cell("0 100/101 0 1"), cell("100/101 1 0 1", B)))
        self.assertTrue(is_picture(taken_out(picture, box("1/100 1 0 1"))))
        picture = drawn(cell("0 1/103 0 1"), cell("1/103 1/101 0 1", B), cell("1/101 1/97 0 1", C), cell("1/97 1 0 1", D))
        self.assertEqual(taken_out(picture, box("0 1/97 0 1")), drawn(
            cell("0 97/103 0 1"), cell("97/103 97/101 0 1", B), cell("97/101 1 0 1", C)))
        with self.assertRaises(TooMany):
            taken_out(drawn(cell("0 1/9973 0 1"), cell("1/9973 2/9967 0 1", B), cell("2/9967 1 0 1", C)), box("1/9973 1 0 1"))
        # Drawn out, the first cut stands at 81/10000 and at 74/10001.
        for first, second, share in [("1/125", "80/81", "81/10000"), ("1/137", "73/74", None)]:
            picture = drawn(cell(f"0 {first} 0 1"), cell(f"{first} {second} 0 1", B), cell(f"{second} 1 0 1", C))
            if share is None:
                with self.assertRaises(TooMany):
                    taken_out(picture, box(f"0 {second} 0 1"))
            else:
                self.assertEqual(taken_out(picture, box(f"0 {second} 0 1")), drawn(
                    cell(f"0 {share} 0 1"), cell(f"{share} 1 0 1", B)))

    def test_by_chance(self):
        for picture in PICTURES:
            for inner, cells in oracles.all_boxes(picture).items():
                made = taken_out(picture, told_box(inner))
                self.assertEqual(made, finding_oracles.taken(cells, inner))
                self.assertTrue(is_picture(made))
                self.assertEqual(put_in(picture, told_box(inner), made), picture)

    def test_boxes_that_do_not_come_by_cutting(self):
        for picture, told in [(CUT_WHEEL, "0 2/3 0 1/3"), (WHEEL, "0 2/3 0 1/3"), (grid(1, 3), "0 1/2 0 1"),
                              (columns([1], [], parts=2), "0 1 0 1/2"), (framed_picture(PICTURE_OF_X), "0 1/2 0 1/2")]:
            with self.assertRaises(BadBox):
                taken_out(picture, box(told))
            for other in (ONE, None):
                with self.assertRaises(BadBox):
                    put_in(picture, box(told), other)

    def test_bad_box_and_picture(self):
        for picture in (PICTURE_OF_X, FRAMED, WHEEL):
            for thing in no_boxes():
                with self.assertRaises(BadBox, msg=repr(thing)):
                    taken_out(picture, thing)
                with self.assertRaises(BadBox):
                    put_in(picture, thing, None)
        for thing in NO_PICTURES:
            for inner in (WHOLE, None):
                with self.assertRaises(BadPicture):
                    taken_out(thing, inner)
                with self.assertRaises(BadPicture):
                    put_in(thing, inner, ONE)
            with self.assertRaises(BadPicture):
                put_in(PICTURE_OF_X, WHOLE, thing)


class FoundIn(unittest.TestCase):
    def test_where_it_is(self):
        self.assertEqual(found_in(PICTURE_OF_X, PICTURE_OF_X), [((), WHOLE)])
        self.assertEqual(found_in(PICTURE_OF_X, ALONE["a"]), [((), box("0 1/2 0 1/2"))])
        self.assertEqual(found_in(PICTURE_OF_X, picture_of(("down", HALF, C, D))), [((), box("1/2 1 0 1"))])
        self.assertEqual(found_in(PICTURE_OF_X, picture_of(("across", HALF, A, C))), [((), box("0 1 0 1/2"))])
        self.assertEqual(found_in(PICTURE_OF_X, picture_of(("across", (1, 3), A, C))), [])
        self.assertEqual(found_in(PICTURE_OF_X, picture_of(("across", HALF, C, A))), [])
        self.assertEqual(found_in(ONE, PICTURE_OF_X), [])

    def test_all_places_ascend(self):
        picture = row("a", "a", "b", "a")
        self.assertEqual(found_in(picture, ALONE["a"]), [
            ((), box("0 1/4 0 1")), ((), box("1/4 1/2 0 1")), ((), box("3/4 1 0 1"))])
        self.assertEqual(found_in(row("a", "a", "a"), row("a", "a")), [((), box("0 2/3 0 1")), ((), box("1/3 1 0 1"))])
        thirds = drawn(cell("0 1/3 0 1", A), cell("1/3 1/2 0 1", B), cell("1/2 1 0 1", A))
        self.assertEqual(found_in(thirds, ALONE["a"]), [((), box("0 1/3 0 1")), ((), box("1/2 1 0 1"))])

    def test_within_frames(self):
        self.assertEqual(found_in(FRAMED, PICTURE_OF_X), [((1,), WHOLE)])
        self.assertEqual(found_in(FRAMED, ALONE["a"]), [((), box("0 1/3 0 1")), ((1,), box("0 1/2 0 1/2"))])
        self.assertEqual(found_in(framed_picture(framed_picture(FRAMED)), PICTURE_OF_X), [((0, 0, 1), WHOLE)])
        self.assertEqual(found_in(FRAMED, framed_picture(PICTURE_OF_X)), [((), box("1/3 2/3 0 1"))])
        self.assertEqual(found_in(FRAMED, framed_picture(PICTURE_OF_X, "g")), [])
        self.assertEqual(found_in(BARRED, WHEEL), [((1,), WHOLE)])

    def test_boxes_that_do_not_come_by_cutting(self):
        self.assertEqual(found_in(CUT_WHEEL, row("a", "a")), [])
        self.assertEqual(found_in(WHEEL, ALONE["a"]), [])

    def test_boxes_that_would_be_no_picture_are_left_out(self):
        picture = drawn(cell("0 1/9973 0 1"), cell("1/9973 2/9967 0 1", B), cell("2/9967 1 0 1", C))
        self.assertEqual(found_in(picture, ALONE["c"]), [((), box("2/9967 1 0 1"))])
        self.assertEqual(found_in(picture, row("b", "c")), [])

    def test_by_chance(self):
        chance = random.Random(92)
        for picture in PICTURES:
            others = [ALONE["a"], ALONE["b"], chance.choice(PICTURES)]
            for path in [()] + [path for path in paths_of(picture)]:
                try:
                    level = level_at(picture, path)
                except ValueError:
                    continue
                others += [taken_out(level, inner) for inner in boxes_of(level)[:5]]
            for other in others:
                wanted = [(path, told_box(inner)) for path, inner in finding_oracles.found(picture, other)]
                self.assertEqual(found_in(picture, other), wanted)

    def test_bad_picture(self):
        for thing in NO_PICTURES:
            for other in (ONE, None):
                with self.assertRaises(BadPicture):
                    found_in(thing, other)
            with self.assertRaises(BadPicture):
                found_in(ONE, thing)


class PutIn(unittest.TestCase):
    def test_whole_box_and_cells(self):
        self.assertEqual(put_in(PICTURE_OF_X, WHOLE, FRAMED), FRAMED)
        self.assertEqual(put_in(PICTURE_OF_X, box("0 1/2 0 1/2"), ALONE["d"]), with_content(PICTURE_OF_X, 0, D))
        self.assertEqual(put_in(PICTURE_OF_X, box("0 1/2 0 1"), ALONE["d"]), drawn(cell("0 1/2 0 1", D), *PICTURE_OF_X[2:]))
        self.assertEqual(put_in(ONE, WHOLE, WHEEL), WHEEL)

    def test_drawn_together(self):
        self.assertEqual(put_in(FRAMED, box("2/3 1 0 1"), PICTURE_OF_X), drawn(
            *FRAMED[:2], cell("2/3 5/6 0 1/2", A), cell("2/3 5/6 1/2 1", B), cell("5/6 1 0 1/2", C), cell("5/6 1 1/2 1", D)))
        self.assertEqual(put_in(PICTURE_OF_X, box("0 1 1/2 1"), framed_picture(WHEEL)), drawn(
            PICTURE_OF_X[0], PICTURE_OF_X[2], cell("0 1 1/2 1", ("within", "f", WHEEL))))

    def test_too_many_parts(self):
        self.assertEqual(len(put_in(grid(3, 3), box("0 1/3 0 1/3"), PICTURE_OF_X)), 12)
        with self.assertRaises(TooMany):
            put_in(grid(2, 5), box("0 1/5 0 1/2"), PICTURE_OF_X)
        with self.assertRaises(TooMany):
            put_in(PICTURE_OF_X, box("0 1/2 0 1/2"), grid(2, 5))
        self.assertEqual(len(put_in(PICTURE_OF_X, box("0 1/2 0 1/2"), grid(3, 3))), 12)
        eleven = framed_picture(grid(2, 5))
        self.assertEqual(put_in(picture_of(("down", HALF, A, B)), box("0 1 0 1/2"), eleven)[0][4], eleven[0][4])
        with self.assertRaises(TooMany):
            put_in(picture_of(("down", HALF, A, ("across", HALF, A, B))), box("0 1 0 1/2"), eleven)

    def test_too_great_a_bottom(self):
        picture = drawn(cell("0 1/100 0 1"), cell("1/100 1 0 1", B))
        for parts, fits in [(100, True), (101, False)]:
            other = drawn(cell(f"0 1/{parts} 0 1", C), cell(f"1/{parts} 1 0 1", D))
            if fits:
                self.assertEqual(put_in(picture, box("0 1/100 0 1"), other)[1][0], (1, 10000))
            else:
                with self.assertRaises(TooMany):
                    put_in(picture, box("0 1/100 0 1"), other)
        self.assertTrue(is_picture(put_in(FINE, box("0 1/2 1/9999 1"), columns([], []))))
        with self.assertRaises(TooMany):
            put_in(FINE, box("0 1/2 1/9999 1"), columns([1], parts=3))

    def test_by_chance(self):
        chance = random.Random(93)
        seen = {True: 0, False: 0}
        for picture in PICTURES:
            for inner in oracles.all_boxes(picture):
                other = chance.choice(PICTURES)
                wanted = finding_oracles.filled(picture, inner, other)
                fits = finding_oracles.keeps_bounds(wanted)
                seen[fits] += 1
                if fits:
                    self.assertEqual(put_in(picture, told_box(inner), other), wanted)
                    self.assertIn(((), told_box(inner)), found_in(wanted, other))
                else:
                    with self.assertRaises(TooMany):
                        put_in(picture, told_box(inner), other)
        self.assertGreater(min(seen.values()), 30)


class Exchanged(unittest.TestCase):
    def test_parts(self):
        self.assertEqual(exchanged(row("a", "b", "a"), ALONE["a"], ALONE["c"]), row("c", "b", "c"))
        self.assertEqual(exchanged(row("a", "b", "a"), ALONE["d"], ALONE["c"]), row("a", "b", "a"))
        self.assertEqual(exchanged(PICTURE_OF_X, PICTURE_OF_X, FRAMED), FRAMED)

    def test_within_frames(self):
        self.assertEqual(exchanged(FRAMED, ALONE["a"], ALONE["d"]), drawn(
            cell("0 1/3 0 1", D), cell("1/3 2/3 0 1", ("within", "f", with_content(PICTURE_OF_X, 0, D))), FRAMED[2]))
        self.assertEqual(exchanged(framed_picture(FRAMED), PICTURE_OF_X, ALONE["a"]), framed_picture(
            with_content(FRAMED, 1, ("within", "f", ALONE["a"]))))
        self.assertEqual(exchanged(FRAMED, framed_picture(PICTURE_OF_X), ALONE["c"]), row("a", "c", "b"))

    def test_places_that_overlap(self):
        self.assertEqual(exchanged(row("a", "a", "a"), row("a", "a"), ALONE["b"]), drawn(
            cell("0 2/3 0 1", B), cell("2/3 1 0 1", A)))
        self.assertEqual(exchanged(row("a", "a", "a", "a"), row("a", "a"), row("b", "c")), row("b", "c", "b", "c"))
        self.assertEqual(exchanged(row("a", "a", "a", "a", "a"), row("a", "a"), row("b", "c")), row("b", "c", "b", "c", "a"))
        square = tuple(entry[:4] + (A,) for entry in PICTURE_OF_X)
        self.assertEqual(exchanged(square, picture_of(("across", HALF, A, A)), row("b", "c")), tuple(
            entry[:4] + (content,) for entry, content in zip(square, [B, B, C, C])))

    def test_places_in_unlike_pictures_do_not_overlap(self):
        picture = drawn(cell("0 1/2 0 1", A), cell("1/2 1 0 1", ("within", "f", ONE)))
        self.assertEqual(exchanged(picture, ONE, ALONE["b"]), drawn(cell("0 1/2 0 1", B), cell("1/2 1 0 1", ("within", "f", ALONE["b"]))))
        both = drawn(cell("0 1/2 0 1", ("within", "f", row("a", "a", "a"))), cell("1/2 1 0 1", ("within", "f", row("a", "a"))))
        self.assertEqual(exchanged(both, row("a", "a"), ALONE["b"]), drawn(
            cell("0 1/2 0 1", ("within", "f", drawn(cell("0 2/3 0 1", B), cell("2/3 1 0 1", A)))),
            cell("1/2 1 0 1", ("within", "f", ALONE["b"]))))

    def test_for_itself(self):
        for picture in (row("a", "a", "a"), FRAMED, BARRED, PICTURE_OF_X):
            for other in (ONE, PICTURE_OF_X, WHEEL, row("a", "a"), picture):
                self.assertEqual(exchanged(picture, other, other), picture)

    def test_for_one_that_holds_it(self):
        self.assertEqual(exchanged(row("a", "b"), ALONE["a"], row("a", "a")), drawn(
            cell("0 1/4 0 1", A), cell("1/4 1/2 0 1", A), cell("1/2 1 0 1", B)))
        self.assertEqual(exchanged(ONE, ONE, framed_picture(ONE)), framed_picture(ONE))
        self.assertEqual(exchanged(row("a", "a"), ONE, framed_picture(ONE)), drawn(
            cell("0 1/2 0 1", ("within", "f", ONE)), cell("1/2 1 0 1", ("within", "f", ONE))))

    def test_what_comes_of_it_is_not_looked_at_again(self):
        self.assertEqual(exchanged(row("a", "b"), ALONE["b"], ALONE["a"]), row("a", "a"))
        self.assertEqual(exchanged(row("a", "b", "b", "b"), row("a", "b"), row("b", "a")), drawn(
            cell("0 1/4 0 1", B), cell("1/4 1/2 0 1", A), cell("1/2 3/4 0 1", B), cell("3/4 1 0 1", B)))

    def test_all_at_once(self):
        # By the first exchange alone there would be too many, or too great a bottom.
        self.assertEqual(exchanged(grid_of_a(12), row("a", "a", "a", "a"), ALONE["b"]), row("b", "b", "b"))
        with self.assertRaises(TooMany):
            exchanged(grid_of_a(12), ONE, row("a", "b"))
        with self.assertRaises(TooMany):
            exchanged(grid_of_a(7), ONE, row("a", "b"))
        self.assertEqual(len(exchanged(grid_of_a(6), ONE, row("a", "b"))), 12)

    def test_too_great_a_bottom(self):
        self.assertTrue(is_picture(exchanged(FINE, ALONE["b"], row("a", "b"))))
        for name in "ab":
            with self.assertRaises(TooMany):
                exchanged(FINE, ALONE[name], columns([1], parts=3))
        self.assertEqual(exchanged(FINE, ALONE["d"], columns([1], parts=3)), FINE)

    def test_by_chance(self):
        chance = random.Random(94)
        seen = {"same": 0, "other": 0, "none": 0}
        for picture in PICTURES * 3:
            levels = [level for _, level in oracles.levels(picture)]
            level = chance.choice(levels)
            other = chance.choice([ALONE[chance.choice("abcd")], taken_out(level, chance.choice(boxes_of(level)))])
            third = chance.choice([ALONE["d"], ALONE["a"], row("a", "b"), chance.choice(PICTURES), framed_picture(other)])
            if not is_picture(third):
                third = ALONE["d"]
            wanted = finding_oracles.exchange(picture, other, third)
            if finding_oracles.keeps_bounds(wanted):
                self.assertEqual(exchanged(picture, other, third), wanted)
                seen["same" if wanted == picture else "other"] += 1
            else:
                seen["none"] += 1
                with self.assertRaises(TooMany):
                    exchanged(picture, other, third)
        self.assertGreater(min(seen.values()), 15)

    def test_bad_picture(self):
        for thing in NO_PICTURES:
            with self.assertRaises(BadPicture):
                exchanged(thing, None, None)
            with self.assertRaises(BadPicture):
                exchanged(grid_of_a(7), thing, None)
            with self.assertRaises(BadPicture):
                exchanged(grid_of_a(7), ONE, thing)


def grid_of_a(many):
    return row(*["a"] * many)


class LeastUnlike(unittest.TestCase):
    def test_the_same(self):
        for picture in (ONE, PICTURE_OF_X, FRAMED, WHEEL, BARRED):
            self.assertIsNone(least_unlike(picture, picture))

    def test_one_cell(self):
        self.assertEqual(least_unlike(PICTURE_OF_X, with_content(PICTURE_OF_X, 1, D)), ((), box("0 1/2 1/2 1"), ALONE["d"]))
        self.assertEqual(least_unlike(ONE, ALONE["b"]), ((), WHOLE, ALONE["b"]))
        self.assertEqual(least_unlike(PICTURE_OF_X, ONE), ((), WHOLE, ONE))
        self.assertEqual(least_unlike(ONE, PICTURE_OF_X), ((), WHOLE, PICTURE_OF_X))

    def test_a_box_of_several_cells(self):
        both = with_content(with_content(PICTURE_OF_X, 0, D), 1, D)
        self.assertEqual(least_unlike(PICTURE_OF_X, both), ((), box("0 1/2 0 1"), picture_of(("down", HALF, D, D))))
        across = with_content(with_content(PICTURE_OF_X, 1, A), 3, A)
        self.assertEqual(least_unlike(PICTURE_OF_X, across), ((), box("0 1 1/2 1"), row("a", "a")))
        diagonal = with_content(with_content(PICTURE_OF_X, 0, D), 3, A)
        self.assertEqual(least_unlike(PICTURE_OF_X, diagonal), ((), WHOLE, diagonal))

    def test_a_box_that_is_cut_otherwise(self):
        for inside in (row("c", "d"), ALONE["c"], framed_picture(PICTURE_OF_X)):
            other = put_in(PICTURE_OF_X, box("1/2 1 0 1"), inside)
            self.assertEqual(least_unlike(PICTURE_OF_X, other), ((), box("1/2 1 0 1"), inside))
            self.assertEqual(least_unlike(other, PICTURE_OF_X), ((), box("1/2 1 0 1"), picture_of(("down", HALF, C, D))))

    def test_two_boxes_of_which_one_lies_within_the_other(self):
        one, other = row("a", "b", "c", "d"), row("a", "c", "b", "d")
        self.assertEqual(least_unlike(one, other), ((), box("1/4 3/4 0 1"), row("c", "b")))
        self.assertEqual(least_unlike(row("a", "b", "c"), row("a", "d", "c")), ((), box("1/3 2/3 0 1"), ALONE["d"]))

    def test_boxes_that_come_by_cutting_the_one_alone(self):
        # The upper half comes by cutting the first, but not the second.
        one = drawn(cell("0 1 0 1/2", A), cell("0 1 1/2 1", B))
        other = drawn(cell("0 1/2 0 1", A), cell("1/2 1 0 1", B))
        self.assertEqual(least_unlike(one, other), ((), WHOLE, other))
        self.assertEqual(least_unlike(WHEEL, with_content(WHEEL, 0, A)), ((), WHOLE, with_content(WHEEL, 0, A)))

    def test_a_frame_alone(self):
        other = with_content(FRAMED, 1, ("within", "g", PICTURE_OF_X))
        self.assertEqual(least_unlike(FRAMED, other), ((), box("1/3 2/3 0 1"), framed_picture(PICTURE_OF_X, "g")))
        other = with_content(FRAMED, 1, A)
        self.assertEqual(least_unlike(FRAMED, other), ((), box("1/3 2/3 0 1"), ALONE["a"]))
        self.assertEqual(least_unlike(other, FRAMED), ((), box("1/3 2/3 0 1"), framed_picture(PICTURE_OF_X)))

    def test_within_a_frame(self):
        other = with_content(FRAMED, 1, ("within", "f", with_content(PICTURE_OF_X, 2, D)))
        self.assertEqual(least_unlike(FRAMED, other), ((1,), box("1/2 1 0 1/2"), ALONE["d"]))
        other = with_content(FRAMED, 1, ("within", "f", WHEEL))
        self.assertEqual(least_unlike(FRAMED, other), ((1,), WHOLE, WHEEL))
        other = with_content(with_content(FRAMED, 1, ("within", "f", WHEEL)), 2, D)
        self.assertEqual(least_unlike(FRAMED, other), ((), box("1/3 1 0 1"), taken_out(other, box("1/3 1 0 1"))))

    def test_one_cell_with_a_frame_beside_several_cells(self):
        several = put_in(PICTURE_OF_X, box("1/2 1 0 1"), drawn(
            cell("0 1/2 0 1", ("within", "f", ONE)), cell("1/2 1 0 1", B)))
        one = put_in(PICTURE_OF_X, box("1/2 1 0 1"), framed_picture(WHEEL))
        self.assertEqual(least_unlike(several, one), ((), box("1/2 1 0 1"), framed_picture(WHEEL)))
        self.assertEqual(least_unlike(one, several), ((), box("1/2 1 0 1"), taken_out(several, box("1/2 1 0 1"))))
        self.assertEqual(least_unlike(framed_picture(ONE), taken_out(several, box("1/2 1 0 1"))), (
            (), WHOLE, taken_out(several, box("1/2 1 0 1"))))

    def test_a_part_and_a_frame_of_one_name(self):
        part, frame = (WHOLE + (("part", "f"),),), framed_picture(ONE)
        self.assertEqual(least_unlike(part, frame), ((), WHOLE, frame))
        self.assertEqual(least_unlike(frame, part), ((), WHOLE, part))
        self.assertEqual(least_unlike(part, ONE), ((), WHOLE, ONE))

    def test_frames_within_frames(self):
        deep = framed_picture(framed_picture(FRAMED), "g")
        other = framed_picture(framed_picture(with_content(FRAMED, 1, ("within", "f", with_content(PICTURE_OF_X, 3, A)))), "g")
        self.assertEqual(least_unlike(deep, other), ((0, 0, 1), box("1/2 1 1/2 1"), ALONE["a"]))
        other = framed_picture(framed_picture(FRAMED, "h"), "g")
        self.assertEqual(least_unlike(deep, other), ((0,), WHOLE, framed_picture(FRAMED, "h")))

    def test_too_great_a_bottom(self):
        ends = ["0", "1/9973", "2/9967", "1/2", "1"]
        one = drawn(*[cell(f"{left} {right} 0 1", A) for left, right in zip(ends, ends[1:])])
        other = with_content(with_content(one, 1, B), 3, B)
        with self.assertRaises(TooMany):
            least_unlike(one, other)
        self.assertEqual(least_unlike(one, with_content(one, 1, B)), ((), one[1][:4], ALONE["b"]))

    def test_by_chance(self):
        chance = random.Random(95)
        seen = {"same": 0, "framed": 0, "whole": 0, "within": 0}
        for picture in PICTURES * 6:
            other = changed(chance, picture)
            if chance.random() < 0.2 and is_picture(other):
                other = changed(chance, other)
            if not is_picture(other):
                continue
            if other == picture:
                self.assertIsNone(least_unlike(picture, other))
                seen["same"] += 1
                continue
            wanted = finding_oracles.unlike(picture, other)
            self.assertEqual(least_unlike(picture, other), wanted)
            seen["framed" if wanted[0] else "whole" if wanted[1] == WHOLE else "within"] += 1
        self.assertGreater(min(seen.values()), 5)

    def test_bad_picture(self):
        for thing in NO_PICTURES:
            for other in (ONE, None):
                with self.assertRaises(BadPicture):
                    least_unlike(thing, other)
            with self.assertRaises(BadPicture):
                least_unlike(ONE, thing)


class Signs(unittest.TestCase):
    def test_one_part_apart(self):
        signs = (("one", row("a", "b")), ("two", row("a", "c")), ("three", row("d", "b")), ("four", row("d", "c")),
                 ("five", picture_of(("down", HALF, A, B))), ("six", row("a", "b")))
        self.assertEqual(one_part_apart(Z, signs), [
            ("one", "two"), ("one", "three"), ("two", "four"), ("two", "six"), ("three", "four"), ("three", "six")])

    def test_one_sign_alone(self):
        self.assertEqual(one_part_apart(Z, (("one", PICTURE_OF_X),)), [])
        self.assertEqual(signs_with(Z, (("one", PICTURE_OF_X),), ONE), ["one"])

    def test_boxes_and_frames_are_the_same(self):
        narrow = drawn(cell("0 1/3 0 1", A), cell("1/3 1 0 1", C))
        signs = (("one", row("a", "b")), ("two", narrow), ("three", ONE), ("four", framed_picture(ONE)))
        self.assertEqual(one_part_apart(Z, signs), [])
        signs = (("one", framed_picture(ONE)), ("two", framed_picture(ALONE["b"])), ("three", framed_picture(ONE, "g")),
                 ("four", framed_picture(row("a", "b"))), ("five", framed_picture(framed_picture(ONE))))
        stock = (Z[0], Z[1] + (("g",) + Z[1][0][1:],))
        self.assertEqual(one_part_apart(stock, signs), [("one", "two")])

    def test_parts_apart_within_frames(self):
        deep = framed_picture(framed_picture(row("a", "b")))
        signs = (("one", deep), ("two", framed_picture(framed_picture(row("a", "c")))),
                 ("three", framed_picture(framed_picture(row("c", "b")))), ("four", FRAMED),
                 ("five", with_content(FRAMED, 1, ("within", "f", with_content(PICTURE_OF_X, 2, D)))),
                 ("six", with_content(FRAMED, 2, A)))
        self.assertEqual(one_part_apart(Z, signs), [("one", "two"), ("one", "three"), ("four", "five"), ("four", "six")])

    def test_by_chance(self):
        chance = random.Random(96)
        put = [picture for picture in PICTURES if count_puttings(picture)]
        for _ in range(40):
            picture = chance.choice(put)
            signs = [picture]
            for _ in range(chance.randint(1, 6)):
                other = changed(chance, chance.choice(signs))
                if is_picture(other) and count_puttings(other):
                    signs.append(other)
            wanted = [(f"w{at}", f"w{later}") for at in range(len(signs)) for later in range(at + 1, len(signs))
                      if finding_oracles.bare(signs[at]) == finding_oracles.bare(signs[later])
                      and sum(one != other for one, other in zip(finding_oracles.names(signs[at]),
                                                                 finding_oracles.names(signs[later]))) == 1]
            told = tuple((f"w{at}", some) for at, some in enumerate(signs))
            self.assertEqual(one_part_apart(MIXED, told), wanted)
            for other in (picture, ALONE["b"], taken_out(picture, boxes_of(picture)[0])):
                self.assertEqual(signs_with(MIXED, told, other), [
                    word for word, some in told if finding_oracles.found(some, other)])

    def test_parts_in(self):
        self.assertEqual(parts_in(PICTURE_OF_X), [("a", 1), ("b", 1), ("c", 1), ("d", 1)])
        self.assertEqual(parts_in(FRAMED), [("a", 2), ("b", 2), ("c", 1), ("d", 1)])
        self.assertEqual(parts_in(framed_picture(framed_picture(row("d", "c", "d")))), [("c", 1), ("d", 2)])
        self.assertEqual(parts_in(row("b", "a10", "a9", "b")), [("a10", 1), ("a9", 1), ("b", 2)])
        self.assertEqual(parts_in(BARRED), [("a", 2), ("b", 1), ("c", 2), ("d", 2), ("e", 1)])

    def test_signs_with(self):
        signs = (("one", PICTURE_OF_X), ("two", FRAMED), ("three", row("a", "c")), ("four", ALONE["d"]))
        for picture, words in [
                (ALONE["a"], ["one", "two", "three"]), (PICTURE_OF_X, ["one", "two"]), (row("a", "c"), ["one", "two", "three"]),
                (ALONE["d"], ["one", "two", "four"]), (row("c", "a"), []), (framed_picture(PICTURE_OF_X), ["two"])]:
            self.assertEqual(signs_with(Z, signs, picture), words)

    def test_a_picture_without_a_putting_is_found_in_none(self):
        stock = (Z[0] + (("e",) + Z[0][0][1:],), Z[1])
        self.assertEqual(signs_with(stock, (("one", PICTURE_OF_X),), WHEEL), [])
        with self.assertRaises(BadPicture):
            signs_with(Z, (("one", PICTURE_OF_X),), WHEEL)

    def test_errors(self):
        for thing in no_signs():
            with self.assertRaises(BadSigns):
                one_part_apart(Z, thing)
            for picture in (ONE, None):
                with self.assertRaises(BadSigns):
                    signs_with(Z, thing, picture)
        for thing in NO_PICTURES:
            with self.assertRaises(BadPicture):
                parts_in(thing)
            with self.assertRaises(BadPicture):
                signs_with(Z, (("one", ONE),), thing)
        for picture in (framed_picture(ONE, "g"), row("a", "e"), framed_picture(ONE, "a")):
            with self.assertRaises(BadPicture):
                signs_with(Z, (("one", ONE),), picture)
        for thing in objects():
            with self.assertRaises(BadStock):
                one_part_apart(thing, None)
            with self.assertRaises(BadStock):
                signs_with(thing, None, None)


if __name__ == "__main__":
    unittest.main()
