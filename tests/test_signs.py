import copy
import random
import re
import unittest
from fractions import Fraction

from brushedsigns.errors import BadSign, BadText
from brushedsigns.signs import depth_of, is_sign, read_sign, size_of, write_sign
from tests.things import (
    A, B, C, EqualToAll, HALF, STOCK, Stubborn, X, balanced, framed, objects, row, with_each, with_lists)

WORDS = ("across", "down")
# Behind a cut at 9999/10000 this one is at 5000/9999 of the whole.
GREAT = (50000000, 99980001)
NO_CUTS = [
    (0, 1), (1, 1), (0, 2), (2, 4), (3, 6), (2, 2), (3, 2), (2, 1), (-1, 2), (1, -2), (-1, -2), (1, 0), (0, 0), (1,), (),
    (1, 2, 3), (True, 2), (1, True), (False, 1), [1, 2], "1/2", 1, 0, True, None, ("1", "2"), (None, 2), (1, None),
    EqualToAll(), (EqualToAll(), EqualToAll()), (1, EqualToAll()), Stubborn(),
]


def boxes(sign, box=(Fraction(0), Fraction(1), Fraction(0), Fraction(1))):
    """All boxes that come of a sign, reckoned by Python's own fractions."""
    found = [box]
    if sign[0] == "within":
        return found + boxes(sign[2])
    if sign[0] == "part":
        return found
    left, right, upper, lower = box
    share = Fraction(*sign[1])
    if sign[0] == "across":
        x = left + (right - left) * share
        return found + boxes(sign[2], (left, x, upper, lower)) + boxes(sign[3], (x, right, upper, lower))
    y = upper + (lower - upper) * share
    return found + boxes(sign[2], (left, right, upper, y)) + boxes(sign[3], (left, right, y, lower))


def count(sign):
    return sum(count(inner) for inner in sign[2:]) + (sign[0] not in WORDS)


def deep(sign):
    return 1 + max([deep(inner) for inner in sign[2:]], default=0)


def greatest(sign):
    return max(side.denominator for box in boxes(sign) for side in box)


def is_kept(sign):
    """Whether a sign that has the form of one keeps the three bounds."""
    return count(sign) <= 12 and deep(sign) <= 12 and greatest(sign) <= 10000


def some_cut(chance, most):
    cut = Fraction(chance.randint(1, most - 1), most)
    return (cut.numerator, cut.denominator)


def some_sign(chance, levels):
    """A sign by chance, which may go beyond the bounds."""
    roll = chance.random()
    if levels == 0 or roll < 0.15:
        return ("part", chance.choice(["a", "b", "c1", "abcdefgh"]))
    if roll < 0.3:
        return ("within", chance.choice(["f", "g"]), some_sign(chance, levels - 1))
    cut = some_cut(chance, chance.choice([2, 2, 3, 5, 11, 36, 97]))
    return (chance.choice(WORDS), cut, some_sign(chance, levels - 1), some_sign(chance, levels - 1))


def some_signs(many):
    chance = random.Random(11)
    return [some_sign(chance, chance.randint(0, 5)) for _ in range(many)]


class IsSign(unittest.TestCase):
    def check(self, thing, wanted):
        self.assertIs(is_sign(thing), wanted, thing)

    def test_signs(self):
        for sign in [A, X, ("across", (1, 3), A, B), ("down", (2, 3), A, A), ("within", "f", A), ("within", "f", X)]:
            self.check(sign, True)

    def test_any_object(self):
        for thing in objects() + [STOCK, "part a", ["part", "a"]]:
            self.check(thing, False)

    def test_forms(self):
        for thing in [
                ("part",), ("part", "a", "b"), ("part", "a", A), ("part", A), ("within", "f"), ("within", "f", "a"),
                ("within", "f", A, A), ("within", A), ("within", A, "f"), ("across", HALF, A), ("across", A, A),
                ("across", HALF, A, A, A), ("across", HALF, A, "a"), ("across", HALF, "a", A), ("down", A, HALF, A),
                ("part", "f", A), ("within", "a"), ("beside", HALF, A, B), ("Part", "a"), ("", "a"), ("frame", "f", A),
                (A,), (A, B), (1, "a"), (b"part", "a"), (None, "a"), (["part"], "a"), (("part",), "a"),
                (EqualToAll(), "a"), (EqualToAll(), "f", A), (EqualToAll(), HALF, A, B), (Stubborn(), "a")]:
            self.check(thing, False)

    def test_names(self):
        for name in ["a", "z9", "abcdefgh"]:
            self.check(("part", name), True)
            self.check(("within", name, A), True)
        for name in ["", "abcdefghi", "1a", "A", "a b", "a\n", "a-", None, 1, True, b"a", ["a"], ("a",), EqualToAll()]:
            self.check(("part", name), False)
            self.check(("within", name, A), False)

    def test_cuts(self):
        for word in WORDS:
            for cut in [(1, 2), (1, 10000), (9999, 10000), (9998, 9999)]:
                self.check((word, cut, A, B), True)
            for cut in NO_CUTS:
                self.check((word, cut, A, B), False)
                self.check((word, HALF, (word, cut, A, B), C), False)
                self.check((word, HALF, C, (word, cut, A, B)), False)
                self.check(("within", "f", (word, cut, A, B)), False)

    def test_names_may_be_those_of_words_and_stand_twice(self):
        self.check(("within", "within", ("across", HALF, ("part", "across"), ("part", "within"))), True)
        self.check(("within", "a", ("within", "a", A)), True)

    def test_twelve_and_thirteen_parts_and_frames(self):
        for word in WORDS:
            self.check((word, HALF, balanced(6), balanced(6)), True)
            self.check((word, HALF, balanced(6), balanced(7)), False)
            self.check((word, HALF, balanced(7), balanced(6)), False)
            self.check((word, HALF, balanced(12), A), False)
            self.check((word, HALF, A, balanced(12)), False)
            self.check((word, HALF, framed(3, balanced(3)), framed(3, balanced(3))), True)
            self.check((word, HALF, framed(3, balanced(3)), framed(4, balanced(3))), False)
            self.check((word, HALF, framed(4, balanced(3)), framed(3, balanced(3))), False)
        self.check(balanced(12), True)
        self.check(balanced(13), False)
        self.check(framed(1, balanced(11)), True)
        self.check(framed(1, balanced(12)), False)
        self.check(framed(2, balanced(11)), False)

    def test_twelve_and_thirteen_within_one_another(self):
        for word in WORDS:
            self.check(row(12, word), True)
            self.check(row(13, word), False)
        self.check(framed(11), True)
        self.check(framed(12), False)
        sign = A
        for wanted in [True] * 11 + [False] * 3:
            sign = ("down", HALF, sign, A)
            self.check(sign, wanted)

    def test_one_sign_often_in_itself(self):
        sign = A
        for _ in range(28):
            sign = ("across", HALF, sign, sign)
        self.check(sign, False)

    def test_bottoms(self):
        for word in WORDS:
            self.check((word, (1, 10000), A, B), True)
            self.check((word, (1, 10001), A, B), False)
            self.check((word, (10000, 10001), A, B), False)
            self.check((word, (1, 100), (word, (1, 100), A, B), C), True)
            self.check((word, (1, 137), (word, (1, 73), A, B), C), False)
            self.check((word, (1, 137), C, (word, (1, 73), A, B)), False)
            self.check((word, (1, 100), C, (word, (1, 100), A, B)), True)
            self.check((word, (1, 97), C, (word, (1, 107), A, B)), False)

    def test_bottoms_of_the_two_ways_are_not_told_together(self):
        self.check(("across", (1, 137), ("down", (1, 73), A, B), C), True)
        self.check(("down", (1, 137), ("across", (1, 73), A, B), C), True)
        self.check(("across", (1, 137), ("down", (1, 2), ("across", (1, 73), A, B), C), C), False)
        self.check(("down", (1, 137), ("across", (1, 2), C, ("down", (1, 73), A, B)), C), False)

    def test_bottoms_within_a_frame_are_those_of_its_own_box(self):
        for word in WORDS:
            inner = (word, (1, 73), A, B)
            self.check((word, (1, 137), ("within", "f", inner), C), True)
            self.check((word, (1, 137), C, ("within", "f", inner)), True)
            self.check((word, (1, 137), ("within", "f", C), inner), False)
            self.check(("within", "f", (word, (1, 137), inner, C)), False)
            self.check(("within", "f", (word, (1, 10001), A, B)), False)
            self.check(("within", "f", (word, (1, 10000), A, B)), True)

    def test_great_bottom_of_a_cut_whose_boxes_are_none_the_greater(self):
        for word in WORDS:
            good = (word, (9999, 10000), (word, GREAT, A, B), C)
            self.check(good, True)
            self.check(("within", "f", good), True)
            self.check((word, GREAT, A, B), False)
            self.check((word, (9999, 10000), C, (word, GREAT, A, B)), False)
            self.check((word, (9999, 10000), ("within", "f", (word, GREAT, A, B)), C), False)

    def test_no_list_at_any_depth(self):
        for sign in [X, ("within", "f", X), ("across", HALF, ("within", "f", A), B)]:
            for thing in with_lists(sign):
                self.check(thing, False)

    def test_no_other_object_at_any_place(self):
        for sign in [A, X, ("within", "f", X)]:
            for thing in with_each(sign, lambda entry: [None, True, False, (), [], EqualToAll(), Stubborn(), b"a", "A"]):
                self.check(thing, False)

    def test_signs_by_chance(self):
        kept = 0
        for sign in some_signs(1500):
            self.check(sign, is_kept(sign))
            kept += is_kept(sign)
        self.assertTrue(500 < kept < 1300)


class SizeAndDepth(unittest.TestCase):
    def test_some(self):
        self.assertEqual((size_of(A), depth_of(A)), (1, 1))
        self.assertEqual((size_of(X), depth_of(X)), (4, 3))
        self.assertEqual((size_of(framed(2)), depth_of(framed(2))), (3, 3))
        self.assertEqual((size_of(row(12)), depth_of(row(12))), (12, 12))
        self.assertEqual((size_of(balanced(12)), depth_of(balanced(12))), (12, 5))
        uneven = ("down", HALF, framed(3), A)
        self.assertEqual((size_of(uneven), depth_of(uneven)), (5, 5))
        uneven = ("down", HALF, A, framed(3))
        self.assertEqual((size_of(uneven), depth_of(uneven)), (5, 5))

    def test_signs_by_chance(self):
        for sign in filter(is_kept, some_signs(500)):
            self.assertEqual(size_of(sign), count(sign))
            self.assertEqual(depth_of(sign), deep(sign))

    def test_bad_sign(self):
        for thing in objects() + with_lists(X) + [row(13), framed(12), ("across", (1, 10001), A, B)]:
            for function in (size_of, depth_of, write_sign):
                with self.assertRaises(BadSign):
                    function(thing)

    def test_nothing_is_changed(self):
        listed = ["across", [1, 2], ["part", "a"], ["part", "b"]]
        before = copy.deepcopy(listed)
        is_sign(listed)
        for function in (size_of, depth_of, write_sign):
            with self.assertRaises(BadSign):
                function(listed)
        with self.assertRaises(BadText):
            read_sign(listed)
        self.assertEqual(listed, before)

    def test_by_the_names_of_the_parameters(self):
        self.assertIs(is_sign(thing=A), True)
        self.assertEqual(size_of(sign=A), 1)
        self.assertEqual(depth_of(sign=A), 1)
        self.assertEqual(write_sign(sign=A), "part a")
        self.assertEqual(read_sign(text="part a"), A)


class Write(unittest.TestCase):
    def test_each_word(self):
        self.assertEqual(write_sign(A), "part a")
        self.assertEqual(write_sign(("across", (1, 2), A, B)), "across 1/2 part a part b")
        self.assertEqual(write_sign(("down", (10, 101), A, B)), "down 10/101 part a part b")
        self.assertEqual(write_sign(("within", "f", A)), "within f part a")

    def test_from_the_outside(self):
        text = "across 1/2 down 1/2 part a part b down 1/2 part c part d"
        self.assertEqual(write_sign(X), text)
        self.assertEqual(write_sign(("down", (1, 3), ("within", "f", X), A)), f"down 1/3 within f {text} part a")


class Read(unittest.TestCase):
    def fails(self, text, index):
        with self.assertRaises(BadText, msg=text) as caught:
            read_sign(text)
        self.assertEqual(caught.exception.index, index, text)

    def test_each_word(self):
        self.assertEqual(read_sign("part a"), A)
        self.assertEqual(read_sign("across 1/2 part a part b"), ("across", HALF, A, B))
        self.assertEqual(read_sign("down 9999/10000 part a part b"), ("down", (9999, 10000), A, B))
        self.assertEqual(read_sign("within f part a"), ("within", "f", A))
        self.assertEqual(read_sign("within within across 1/2 part part part across"),
                         ("within", "within", ("across", HALF, ("part", "part"), ("part", "across"))))

    def test_every_sign_is_read_back(self):
        edges = [X, row(12), row(12, "down"), framed(11), balanced(12), framed(1, balanced(11))]
        for sign in edges + [sign for sign in some_signs(800) if is_kept(sign)]:
            self.assertEqual(read_sign(write_sign(sign)), sign)

    def test_great_bottom_is_read_back(self):
        for word in WORDS:
            sign = (word, (9999, 10000), (word, GREAT, A, B), ("within", "f", C))
            self.assertEqual(read_sign(write_sign(sign)), sign)
            self.assertEqual(read_sign(write_sign(("within", "f", sign))), ("within", "f", sign))

    def test_what_is_no_str(self):
        for thing in objects() + [A, ["part", "a"], b"part a", STOCK]:
            if not isinstance(thing, str):
                self.fails(thing, 0)

    def test_text_that_ends_too_early(self):
        text = "across 1/2 down 1/2 part a part b within f down 1/2 part c part d"
        words = text.split(" ")
        for many in range(1, len(words)):
            self.fails(" ".join(words[:many]), many)
        self.fails("", 0)

    def test_words_behind_a_whole_sign(self):
        self.fails("part a part", 2)
        self.fails("part a b c", 2)
        self.fails("part a part b", 2)
        self.fails("within f part a part b", 4)
        self.fails("across 1/2 part a part b x", 6)
        self.fails(write_sign(row(12)) + " part a", 46)

    def test_blanks(self):
        self.fails(" ", 0)
        self.fails(" part a", 0)
        self.fails("part  a", 1)
        self.fails("part ", 1)
        self.fails("part a ", 2)
        self.fails("part a  ", 2)
        self.fails("across  1/2 part a part b", 1)
        self.fails("across 1/2  part a part b", 2)
        self.fails("across 1/2 part a  part b", 4)
        self.fails("across 1/2 part a ", 4)
        self.fails("within f  part a", 2)

    def test_line_feeds_and_tabs_cut_no_words(self):
        self.fails("part\ta", 0)
        self.fails("part\na", 0)
        self.fails("\npart a", 0)
        self.fails("part a\n", 1)
        self.fails("part a\t", 1)
        self.fails("part \ta", 1)
        self.fails("part a \n", 2)
        self.fails("across 1/2\n part a part b", 1)
        self.fails("across 1/2 part a\tpart b", 3)

    def test_words_that_are_none(self):
        for word in ["Part", "parts", "par", "beside", "a", "1/2", "part,", "frame", "~"]:
            self.fails(word, 0)
            self.fails(f"{word} a", 0)
            self.fails(f"within f {word} a", 2)
            self.fails(f"across 1/2 part a {word} b", 4)

    def test_names_that_are_none(self):
        for name in ["1", "A", "abcdefghi", "a-", "1/2", "a.", "_", "a1B"]:
            self.fails(f"part {name}", 1)
            self.fails(f"within {name} part a", 1)
            self.fails(f"down 1/2 part a part {name} more", 5)

    def test_cuts_that_are_none(self):
        for cut in [
                "01/2", "1/02", "001/2", "0/1", "0/2", "1/1", "2/1", "3/2", "2/4", "00/1", "1/0", "0/0", "1", "1/", "/2", "/",
                "1//2", "1/2/3", "1/2/", "/1/2", "-1/2", "+1/2", "1/-2", "-1/-2", "1/+2", "1.0/2", "1_0/11", "1/1_1", "a/b",
                "1/b", "a/2", "1|2", "1\t/2", "1/2\n", "1/10001", "x", "half", "part", "0x1/2", "1e1/11"]:
            for word in WORDS:
                self.fails(f"{word} {cut} part a part b", 1)
                self.fails(f"{word} {cut}", 1)
                self.fails(f"{word} 1/2 part a {word} {cut} part a part b", 5)
                self.fails(f"within f {word} {cut} part", 3)

    def test_cut_with_a_number_of_very_many_digits(self):
        for digits in (30, 31, 5000):
            self.fails("across 1/1" + "0" * (digits - 1), 1)
            self.fails("across " + "9" * digits + "/1" + "0" * digits, 1)

    def test_whatever_stands_behind_the_first_that_does_not_fit(self):
        self.fails("down 2/4 part", 1)
        self.fails("down 2/4 beside A", 1)
        self.fails("part A part A", 1)

    def test_the_thirteenth_part_or_frame(self):
        text = write_sign(balanced(12))
        words = text.split(" ")
        last = len(words) - 2
        more = " ".join(words[:last] + ["across", "1/2", "part", "a"])
        self.assertEqual(read_sign(text), balanced(12))
        self.fails(more, last + 4)
        self.fails(more + " part", last + 4)
        self.fails(more + " within f part a", last + 4)
        self.fails(more + " across", last + 5)
        self.fails(more + " across 1/2", last + 6)
        self.fails(more + " across 1/2 part a part b", last + 6)
        self.fails(more + " across 2/4 part a part b", last + 5)
        self.fails(more + " beside", last + 4)
        self.fails(" ".join(words[:last] + ["within", "f", "part", "a"]), last + 2)
        self.fails(" ".join(words[:last] + ["within", "f", "within", "f", "part", "a"]), last + 2)
        self.fails(" ".join(words[:last] + ["within", "f", "down", "1/2", "part", "a"]), last + 4)

    def test_the_thirteenth_of_a_sign_that_goes_on_ahead(self):
        self.fails("across 1/2 " + write_sign(balanced(12)) + " part a", 2 + 11 * 2 + 12 * 2)
        self.fails("across 1/2 " + write_sign(framed(6, balanced(6))) + " down 1/2 part a part b",
                   2 + 6 * 2 + 5 * 2 + 6 * 2 + 2)

    def test_the_thirteenth_within_one_another(self):
        for word in WORDS:
            ahead = f"{word} 1/2 " * 12
            self.assertEqual(read_sign(f"{word} 1/2 " * 11 + "part a" + " part b" * 11)[0], word)
            self.fails(ahead.rstrip(" "), 24)
            for last in ["part", "part a", "part a part b", "within f part a", "across 1/2", "down 1/2 part a", "x", ""]:
                self.fails(ahead + last, 24)
            mixed = f"{word} 1/2 " * 6 + "within f " * 6
            self.fails(mixed + "part a", 24)
            self.fails(mixed + "across 1/2", 24)
            self.fails(mixed.rstrip(" "), 24)
            self.fails(f"{word} 1/2 part a " + f"{word} 1/2 " * 11 + "down 1/2 part", 26)
            self.fails(f"{word} 1/2 " * 11 + f"{word} 2/4", 23)
        self.fails("within f " * 12 + "part a", 24)
        self.fails("within f " * 11 + "within A part a", 23)

    def test_behind_the_deepest_one_the_next_may_go_as_deep(self):
        text = "down 1/2 " * 11 + "part a part b across 1/2 part c"
        self.fails(text, 30)
        self.fails(text + " across", 31)
        self.fails(text + " across 1/2 part d", 32)

    def test_the_cut_with_which_a_bottom_is_too_great(self):
        for word in WORDS:
            self.fails(f"{word} 1/10001 part a part b", 1)
            self.fails(f"{word} 1/137 {word} 1/73 part a part b part c", 3)
            self.fails(f"{word} 1/137 part c {word} 1/73 part a part b", 5)
            self.fails(f"{word} 1/137 within f {word} 1/10001", 5)
            self.fails(f"{word} 1/137 within f part a {word} 1/73", 7)
            self.fails(f"within f {word} 1/137 part c {word} 1/73 part a part b", 7)
            self.fails(f"{word} {GREAT[0]}/{GREAT[1]}", 1)
            self.fails(f"{word} 9999/10000 part a {word} {GREAT[0]}/{GREAT[1]}", 5)
            self.assertEqual(size_of(read_sign(f"{word} 1/137 within f {word} 1/73 part a part b part c")), 4)
            self.assertEqual(size_of(read_sign(f"{word} 1/100 {word} 1/100 part a part b part c")), 3)
        self.assertEqual(size_of(read_sign("across 1/137 down 1/73 part a part b part c")), 3)
        self.fails("across 1/137 down 1/73 part a across 1/73", 7)

    def test_signs_that_are_not_kept_are_not_read(self):
        for sign in some_signs(600):
            if not is_kept(sign):
                with self.assertRaises(BadText):
                    read_sign(" ".join(words_of(sign)))

    def test_index_by_chance(self):
        chance = random.Random(12)
        texts = [words_of(sign) for sign in some_signs(400)]
        choices = ["part", "within", "across", "down", "1/2", "1/3", "1/73", "2/4", "a", "A", "", "a\n", "01/2"]
        for words in texts:
            changed = list(words)
            for _ in range(chance.randint(0, 3)):
                at = chance.randrange(len(changed) + 1)
                changed[at:at + chance.randint(0, 2)] = [chance.choice(choices)]
            index = first_wrong(changed)
            if index is None:
                self.assertEqual(write_sign(read_sign(" ".join(changed))), " ".join(changed))
            elif changed:
                self.fails(" ".join(changed), index)


def words_of(sign):
    if sign[0] == "part":
        return list(sign)
    if sign[0] == "within":
        return list(sign[:2]) + words_of(sign[2])
    return [sign[0], "/".join(map(str, sign[1]))] + words_of(sign[2]) + words_of(sign[3])


def first_wrong(words):
    """The index that BadText has for these words, None for a sign's, by the places that are still open."""
    whole = {"across": (Fraction(0), Fraction(1)), "down": (Fraction(0), Fraction(1))}
    open_places = [("sign", 1, whole)]
    many = 0
    for index, word in enumerate(words):
        if not open_places:
            return index
        wanted, level, box = open_places.pop()
        if wanted == "sign":
            many += word in ("part", "within")
            if word not in ("part", "within") + WORDS or level > 12 or many > 12:
                return index
            if word == "within":
                open_places.append(("sign", level + 1, whole))
            open_places.append((word, level, box))
        elif wanted in WORDS:
            told = re.fullmatch("([1-9][0-9]*)/([1-9][0-9]*)", word)
            if not told:
                return index
            share = Fraction(word)
            low, high = box[wanted]
            middle = low + (high - low) * share
            if share >= 1 or share.denominator != int(told[2]) or middle.denominator > 10000:
                return index
            open_places.append(("sign", level + 1, {**box, wanted: (middle, high)}))
            open_places.append(("sign", level + 1, {**box, wanted: (low, middle)}))
        elif not (word.isidentifier() and word.isalnum() and word == word.lower() and len(word) <= 8):
            return index
    return len(words) if open_places else None


if __name__ == "__main__":
    unittest.main()
