import random
import unittest
from itertools import combinations

from brushedsigns.errors import BadBook, BadPicture, BadSigns, BadSorts, BadStock, NoPutting, TooMany
from brushedsigns.pictures import picture_of
from brushedsigns.strokes import (
    count_strokes, found_by, next_sorts, same_rows, sorts_row, strokes_of, telling, telling_places, unlike_by)
from tests import book_oracles
from tests.drawn import (
    BARRED, FRAMED, LEFT_UPPER, ONE, PICTURE_OF_X, WHEEL, columns, framed_picture, grid, with_content)
from tests.oracles import WHOLE
from tests.shelf import ACROSS, CLOSE, DOWN, DOWN_FIRST, MIXED, STOCKS, Z, book_by_chance, put_pictures
from tests.test_books import BOOK, no_books
from tests.test_stocks import NO_NAMES
from tests.things import A, B, C, DOT, EqualToAll, HALF, HOLE, LINE, Stubborn, X, objects, with_lists

PICTURES = put_pictures(100, 71)


def sorts_stock(**rows):
    """A stock in which each part has strokes of these sorts, a letter each."""
    return (tuple((name, name, tuple((sort, LINE[1]) for sort in row)) for name, row in rows.items()), ())


def alone(name):
    return (WHOLE + (("part", name),),)


def across(*names):
    """The parts side by side, one picture."""
    sign = ("part", names[-1])
    for name in names[-2::-1]:
        sign = ("across", HALF, ("part", name), sign)
    return picture_of(sign)


# One stroke of each sort a part: a row of parts is a row of any sorts.
SORTS = sorts_stock(s="s", t="t", u="u", v="v")
# A picture whose row is unlike by the two words: s t t s and s u t s.
SQUARE = picture_of(("across", HALF, ("down", HALF, ("part", "s"), ("part", "t")),
                     ("down", HALF, ("part", "u"), ("part", "s"))))


def told(*rows):
    """A list of signs with these rows of sorts."""
    return tuple((f"w{at}", across(*row)) for at, row in enumerate(rows))


def sorted_out(rows, places):
    """Whether the rows are told apart at the places."""
    return len({tuple(row[place] if place < len(row) else None for place in places) for row in rows}) == len(rows)


def no_signs():
    one = ("one", PICTURE_OF_X)
    found = objects() + with_lists((one,)) + [
        one, [one], (one, one), (one, ("two", ONE), ("one", ONE)), (one[::-1],), (one + (None,),), (("one",),),
        (("One", ONE),), (("", ONE),), (("abcdefghi", ONE),), ((EqualToAll(), ONE),), (("one", EqualToAll()),),
        (("one", Stubborn()),), ((Stubborn(), ONE),), (one, None), (("one", X),), (("one", PICTURE_OF_X[::-1]),),
        tuple((f"w{at}", ONE) for at in range(31)), (("one", WHEEL),), (one, ("two", framed_picture(WHEEL))), (("one", BARRED),)]
    for content in [("part", "e"), ("part", "f"), ("within", "a", ONE), ("within", "g", ONE), ("within", "f", BARRED),
                    ("within", "f", with_content(ONE, 0, ("part", "z")))]:
        found.append((one, ("two", with_content(ONE, 0, content))))
    return found


def no_sorts():
    return [thing for thing in objects() if repr(thing) not in ("()", "('part',)", "('a', 'b')", "('f', 'g', 'h')")] + [
        [], ["line"], "line", ("Line",), ("line", None), ("line", ""), ("line", ("dot",)), ("line", True), (EqualToAll(),),
        (Stubborn(),), ("abcdefghi",)] + [("line", name) for name in NO_NAMES]


class Strokes(unittest.TestCase):
    def test_x(self):
        self.assertEqual(strokes_of(Z, ACROSS, PICTURE_OF_X), (((0,), 0), ((1,), 0), ((2,), 0), ((3,), 0)))
        self.assertEqual(sorts_row(Z, ACROSS, PICTURE_OF_X), ("line", "dot", "line", "dot"))
        self.assertEqual(strokes_of(Z, DOWN_FIRST, PICTURE_OF_X), (((0,), 0), ((2,), 0), ((1,), 0), ((3,), 0)))
        self.assertEqual(sorts_row(Z, DOWN_FIRST, PICTURE_OF_X), ("line", "line", "dot", "dot"))
        self.assertEqual(count_strokes(Z, PICTURE_OF_X), 4)

    def test_several_strokes_of_a_part(self):
        picture = across("d", "b")
        self.assertEqual(strokes_of(MIXED, ACROSS, picture), (((0,), 0), ((0,), 1), ((0,), 2), ((1,), 0), ((1,), 1)))
        self.assertEqual(sorts_row(MIXED, ACROSS, picture), ("slant", "dot", "hook", "dot", "line"))
        self.assertEqual(sorts_row(MIXED, (("right", "upper"), (), "across"), picture), ("dot", "line", "slant", "dot", "hook"))

    def test_frames_by_how_many_strokes_are_last(self):
        picture = framed_picture(columns([3]))
        for last in range(3):
            stock = (Z[0], (("f", "f", (DOWN, CLOSE), HOLE, last),))
            frame = [((0,), 0), ((0,), 1)]
            wanted = frame[:2 - last] + [((0, 0), 0), ((0, 1), 0)] + frame[2 - last:]
            self.assertEqual(strokes_of(stock, ACROSS, picture), tuple(wanted))
            row = [("down", "close")[index] if path == (0,) else ("line", "dot")[path[1]] for path, index in wanted]
            self.assertEqual(sorts_row(stock, ACROSS, picture), tuple(row))
            self.assertEqual(count_strokes(stock, picture), 4)

    def test_frames_within_frames(self):
        picture = framed_picture(framed_picture(ONE))
        self.assertEqual(strokes_of(Z, ACROSS, picture), (
            ((0,), 0), ((0, 0), 0), ((0, 0, 0), 0), ((0, 0), 1), ((0,), 1)))
        self.assertEqual(sorts_row(Z, ACROSS, picture), ("down", "down", "line", "close", "close"))
        self.assertEqual(sorts_row(Z, ACROSS, FRAMED), ("line", "down", "line", "dot", "line", "dot", "close", "dot"))
        picture = picture_of(("down", HALF, ("within", "f", ("within", "g", A)), ("within", "g", ("within", "f", B))))
        self.assertEqual(strokes_of(MIXED, ACROSS, picture), (
            ((0,), 0), ((0,), 1), ((0, 0, 0), 0), ((0, 0), 0), ((0, 0), 1), ((0, 0), 2),
            ((1, 0), 0), ((1, 0), 1), ((1, 0, 0), 0), ((1, 0, 0), 1), ((1,), 0), ((1,), 1), ((1,), 2)))

    def test_by_chance(self):
        chance = random.Random(72)
        for picture in PICTURES:
            stock, book = chance.choice(STOCKS), book_by_chance(chance)
            order = book_oracles.write(stock, book, picture)[0]
            strokes = tuple(book_oracles.strokes(stock, picture, order))
            self.assertEqual(strokes_of(stock, book, picture), strokes)
            self.assertEqual(sorts_row(stock, book, picture), book_oracles.row(stock, book, picture))
            self.assertEqual(count_strokes(stock, picture), len(strokes))
            self.assertEqual(len(set(strokes)), len(strokes))

    def test_strokes_are_counted_without_a_putting(self):
        stock = (Z[0] + (("e", "e", (LINE, DOT, LINE)),), Z[1])
        self.assertEqual(count_strokes(stock, WHEEL), 7)
        self.assertEqual(count_strokes(stock, BARRED), 12)

    def test_errors(self):
        stock = (Z[0] + (("e", "e", (LINE,)),), Z[1])
        for function in (strokes_of, sorts_row):
            for picture in (WHEEL, BARRED):
                with self.assertRaises(NoPutting):
                    function(stock, ACROSS, picture)
                with self.assertRaises(BadPicture):
                    function(Z, ACROSS, picture)
            for thing in no_books():
                with self.assertRaises(BadBook):
                    function(Z, thing, WHEEL)
            for thing in objects() + with_lists(PICTURE_OF_X) + [X, Z]:
                with self.assertRaises(BadPicture):
                    function(Z, ACROSS, thing)
        for thing in objects() + with_lists(PICTURE_OF_X) + [X, WHEEL, framed_picture(ONE, "g"), framed_picture(ONE, "a")]:
            with self.assertRaises(BadPicture):
                count_strokes(Z, thing)
        for thing in objects():
            for picture in (ONE, None):
                with self.assertRaises(BadStock):
                    count_strokes(thing, picture)


class Found(unittest.TestCase):
    SIGNS = told("st", "stu", "su", "t", "st")

    def test_words_whose_rows_begin_so_or_are_so(self):
        for sorts, words in [
                ((), ["w0", "w1", "w2", "w3", "w4"]), (("s",), ["w0", "w1", "w2", "w4"]), (("s", "t"), ["w0", "w1", "w4"]),
                (("s", "t", "u"), ["w1"]), (("s", "t", "u", "u"), []), (("t",), ["w3"]), (("t", "s"), []), (("u",), []),
                (("zz",), [])]:
            self.assertEqual(found_by(SORTS, ACROSS, self.SIGNS, sorts), words)

    def test_next_sorts(self):
        for sorts, wanted in [
                ((), [("s", 4), ("t", 1)]), (("s",), [("t", 3), ("u", 1)]), (("s", "t"), [("u", 1)]), (("s", "t", "u"), []),
                (("t",), []), (("u",), []), (("v", "v", "v", "v"), [])]:
            self.assertEqual(next_sorts(SORTS, ACROSS, self.SIGNS, sorts), wanted)

    def test_it_is_the_book_that_tells(self):
        signs = (("one", SQUARE),)
        for book, sorts, words in [(ACROSS, ("s", "t"), ["one"]), (ACROSS, ("s", "u"), []), (DOWN_FIRST, ("s", "u"), ["one"])]:
            self.assertEqual(found_by(SORTS, book, signs, sorts), words)
        self.assertEqual(next_sorts(SORTS, DOWN_FIRST, signs, ("s", "u")), [("t", 1)])

    def test_one_sign_and_thirty(self):
        signs = tuple((f"w{at}", ONE) for at in range(30))
        self.assertEqual(found_by(Z, ACROSS, signs, ("line",)), [f"w{at}" for at in range(30)])
        self.assertEqual(next_sorts(Z, ACROSS, signs, ()), [("line", 30)])
        self.assertEqual(found_by(Z, ACROSS, signs[:1], ()), ["w0"])

    def test_by_chance(self):
        chance = random.Random(73)
        for _ in range(60):
            stock, book = chance.choice(STOCKS), book_by_chance(chance)
            signs = tuple((f"w{at}", chance.choice(PICTURES)) for at in range(chance.randint(1, 8)))
            rows = [book_oracles.row(stock, book, picture) for _, picture in signs]
            row = chance.choice(rows)
            sorts = row[:chance.randint(0, len(row))]
            begin = [at for at, other in enumerate(rows) if other[:len(sorts)] == sorts]
            self.assertEqual(found_by(stock, book, signs, sorts), [f"w{at}" for at in begin])
            further = [rows[at][len(sorts)] for at in begin if len(rows[at]) > len(sorts)]
            self.assertEqual(next_sorts(stock, book, signs, sorts), sorted({(sort, further.count(sort)) for sort in further}))

    def test_bad_sorts(self):
        for thing in no_sorts():
            for function in (found_by, next_sorts):
                with self.assertRaises(BadSorts, msg=repr(thing)):
                    function(Z, ACROSS, (("one", ONE),), thing)


class Telling(unittest.TestCase):
    def test_one_sign_alone(self):
        for picture in (ONE, FRAMED, grid(1, 4)):
            self.assertEqual(telling(Z, ACROSS, (("one", picture),)), [0])
            self.assertEqual(telling_places(Z, ACROSS, (("one", picture),)), ())
            self.assertEqual(same_rows(Z, ACROSS, (("one", picture),)), [])

    def test_telling(self):
        for rows, wanted in [
                (("s", "t"), [1, 1]), (("st", "su", "t"), [2, 2, 1]), (("st", "st"), [None, None]), (("st", "stu"), [None, 3]),
                (("stu", "st", "sts"), [3, None, 3]), (("s", "st", "stu", "stuv"), [None, None, None, 4]),
                (("stst", "stss", "ts", "tt"), [4, 4, 2, 2])]:
            self.assertEqual(telling(SORTS, ACROSS, told(*rows)), wanted)

    def test_same_rows(self):
        for rows, wanted in [
                (("s", "t"), []), (("s", "s"), [["w0", "w1"]]), (("st", "s", "t", "s", "st", "s"), [["w0", "w4"], ["w1", "w3", "w5"]]),
                (("st", "stu"), [])]:
            self.assertEqual(same_rows(SORTS, ACROSS, told(*rows)), wanted)

    def test_same_rows_of_unlike_pictures(self):
        signs = (("one", PICTURE_OF_X), ("two", picture_of(("across", HALF, ("across", HALF, A, B), ("across", HALF, A, B)))))
        self.assertEqual(same_rows(Z, ACROSS, signs), [["one", "two"]])
        self.assertEqual(same_rows(Z, DOWN_FIRST, signs), [])

    def test_lists_stand_in_one_place(self):
        signs = told("s", "s")
        found = same_rows(SORTS, ACROSS, signs)
        found[0].append("more")
        found.append(found[0])
        self.assertEqual(same_rows(SORTS, ACROSS, signs), [["w0", "w1"]])

    def test_telling_places(self):
        for rows, wanted in [
                (("s", "t"), (0,)), (("st", "su"), (1,)), (("st", "stu"), (2,)), (("s", "st"), (1,)), (("s", "s"), None),
                (("ss", "st", "ts", "tt"), (0, 1)), (("sts", "stt", "sus", "sut"), (1, 2)), (("s", "s", "t"), None),
                (("sss", "stt", "tst", "tts"), (0, 1)), (("stu", "sut", "sv"), (1,)), (("stus", "stut", "stus" + "s"), (3, 4)),
                (("sssssssssss" + "s", "ssssssssssss"[:11] + "t"), (11,)), (("s", "t", "ss", "st"), (0, 1))]:
            self.assertEqual(telling_places(SORTS, ACROSS, told(*rows)), wanted, rows)

    def test_the_fewest_and_the_first_by_chance(self):
        chance = random.Random(74)
        unlike = set()
        for _ in range(120):
            rows = ["".join(chance.choice("stuv"[:chance.randint(1, 3)]) for _ in range(chance.randint(1, 6)))
                    for _ in range(chance.randint(1, 7))]
            longest = max(map(len, rows))
            wanted = None
            for many in range(longest + 1):
                places = [some for some in combinations(range(longest), many) if sorted_out(rows, some)]
                if places:
                    wanted = places[0]
                    break
            signs = told(*rows)
            self.assertEqual(telling_places(SORTS, ACROSS, signs), wanted)
            self.assertEqual(wanted is None, same_rows(SORTS, ACROSS, signs) != [])
            unlike.add(wanted)
            first = []
            for at, row in enumerate(rows):
                others = rows[:at] + rows[at + 1:]
                first.append(next((many for many in range(len(row) + 1)
                                   if all(other[:many] != row[:many] for other in others)), None))
            self.assertEqual(telling(SORTS, ACROSS, signs), first)
        self.assertGreater(len(unlike), 8)

    def test_rows_of_twelve_strokes_and_of_thirteen(self):
        stock = sorts_stock(a="s" * 8, b="s" * 4, c="s" * 5, d="t")
        twelve, thirteen = across("a", "b"), across("a", "c")
        self.assertEqual(telling_places(stock, ACROSS, (("one", twelve), ("two", alone("d")))), (0,))
        self.assertIsNone(telling_places(stock, ACROSS, (("one", twelve), ("two", twelve))))
        self.assertEqual(telling_places(stock, ACROSS, (("one", twelve),)), ())
        for signs in ((("one", thirteen),), (("one", thirteen), ("two", thirteen)), (("one", thirteen), ("two", alone("d"))),
                      (("one", twelve), ("two", twelve), ("three", thirteen))):
            with self.assertRaises(TooMany):
                telling_places(stock, ACROSS, signs)
        with self.assertRaises(BadSigns):
            telling_places(stock, ACROSS, (("one", thirteen), ("one", twelve)))
        with self.assertRaises(BadBook):
            telling_places(stock, None, (("one", thirteen),))

    def test_thirty_signs_and_no_bound_for_the_others(self):
        rows = [one + other + last for one in "stuv" for other in "stuv" for last in "st"][:30]
        signs = told(*rows)
        self.assertEqual(telling_places(SORTS, ACROSS, signs), (0, 1, 2))
        self.assertEqual(telling(SORTS, ACROSS, signs), [3] * 30)
        stock = sorts_stock(a="s" * 8)
        long = across("a", "a", "a")
        self.assertEqual(telling(stock, ACROSS, (("one", long), ("two", alone("a")))), [9, None])
        self.assertEqual(same_rows(stock, ACROSS, (("one", long), ("two", long))), [["one", "two"]])
        self.assertEqual(next_sorts(stock, ACROSS, (("one", long),), ("s",) * 23), [("s", 1)])
        self.assertEqual(count_strokes(stock, picture_of(("across", HALF, ("part", "a"), ("part", "a")))), 16)


class UnlikeBy(unittest.TestCase):
    def test_words_whose_rows_are_unlike(self):
        same = picture_of(("across", HALF, ("down", HALF, ("part", "s"), ("part", "t")), ("down", HALF, ("part", "t"), ("part", "s"))))
        signs = (("one", across("s", "t")), ("two", SQUARE), ("three", same), ("four", SQUARE))
        self.assertEqual(unlike_by(SORTS, ACROSS, DOWN_FIRST, signs), ["two", "four"])
        self.assertEqual(unlike_by(SORTS, ACROSS, ACROSS, signs), [])
        self.assertEqual(unlike_by(SORTS, ACROSS, (("right", "upper"), (), "across"), signs), ["one", "two", "three", "four"])
        self.assertEqual(unlike_by(SORTS, ACROSS, (LEFT_UPPER, (("s", "u", None, None, "down"),), "across"), signs), ["two", "four"])

    def test_by_chance(self):
        chance = random.Random(75)
        for _ in range(40):
            stock, book, other = chance.choice(STOCKS), book_by_chance(chance), book_by_chance(chance)
            signs = tuple((f"w{at}", chance.choice(PICTURES)) for at in range(chance.randint(1, 6)))
            wanted = [word for word, picture in signs
                      if book_oracles.row(stock, book, picture) != book_oracles.row(stock, other, picture)]
            self.assertEqual(unlike_by(stock, book, other, signs), wanted)

    def test_errors(self):
        for thing in no_books():
            for signs in ((("one", ONE),), None):
                for other in (ACROSS, None):
                    with self.assertRaises(BadBook):
                        unlike_by(Z, thing, other, signs)
                with self.assertRaises(BadBook):
                    unlike_by(Z, ACROSS, thing, signs)
        for thing in no_signs():
            with self.assertRaises(BadSigns):
                unlike_by(Z, ACROSS, BOOK, thing)


class BadArguments(unittest.TestCase):
    def test_bad_signs(self):
        for thing in no_signs():
            for function in (telling, same_rows, telling_places):
                with self.assertRaises(BadSigns, msg=repr(thing)):
                    function(Z, ACROSS, thing)
            for function in (found_by, next_sorts):
                for sorts in ((), None):
                    with self.assertRaises(BadSigns):
                        function(Z, ACROSS, thing, sorts)

    def test_pictures_have_puttings(self):
        stock = (Z[0] + (("e", "e", (LINE,)),), Z[1])
        for picture in (WHEEL, BARRED, framed_picture(WHEEL)):
            for function in (telling, same_rows, telling_places):
                with self.assertRaises(BadSigns):
                    function(stock, ACROSS, (("one", ONE), ("two", picture)))

    def test_thirty_and_thirty_one_signs(self):
        signs = tuple((f"w{at}", ONE) for at in range(31))
        self.assertEqual(telling(Z, ACROSS, signs[:30]), [None] * 30)
        with self.assertRaises(BadSigns):
            telling(Z, ACROSS, signs)
        with self.assertRaises(BadSigns):
            telling(Z, ACROSS, ())

    def test_bad_book_and_bad_stock(self):
        for function in (telling, same_rows, telling_places):
            for signs in ((("one", ONE),), None):
                for thing in no_books():
                    with self.assertRaises(BadBook):
                        function(Z, thing, signs)
                for thing in objects():
                    with self.assertRaises(BadStock):
                        function(thing, ACROSS, signs)

    def test_pictures_are_of_the_stock(self):
        signs = (("one", across("a", "c")),)
        self.assertEqual(telling((Z[0][:3], ()), ACROSS, signs), [0])
        with self.assertRaises(BadSigns):
            telling((Z[0][:2], ()), ACROSS, signs)
        self.assertEqual(sorts_row(Z, ACROSS, picture_of(("across", HALF, A, C))), ("line", "line"))


if __name__ == "__main__":
    unittest.main()
