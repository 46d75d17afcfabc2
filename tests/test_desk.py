import unittest

from brushedsigns.desk import Desk
from brushedsigns.errors import (
    BadCommand, BadCut, BadName, BadPath, BadSign, BadText, BadWord, Full, NothingToUndo, TooMany)
from brushedsigns.pictures import picture_of, turned_side
from brushedsigns.session import Session
from brushedsigns.signs import read_sign, write_sign
from tests.drawn import PICTURE_OF_X, with_content
from tests.oracles import WHOLE
from tests.shelf import ACROSS, Z
from tests.things import B, D, EqualToAll, Stubborn, X, objects

QUESTIONS = ["sign", "order", "row", "puttings", "orders", "strokes", "crosses"]
# Rows of no form, many of them near to one of a form.
NO_ROWS = objects() + [
    "", " ", "  ", "Sign", "sign ", " sign", "sign  ", "sign sign", "signs", "order a", "row 1", "puttings 0", "orders x",
    "strokes strokes", "crosses ()", "undo undo", "undo ", "say", "rule", "rule a", "copy", "picture", "book", "choices", "count",
    "read", "read ", "read  part a", "read part  a", "read part a ", " read part a", "Read part a", "reads part a",
    "put", "put 0", "put 0 a b", "put  a", "put 0 ", "put 0  a", "put a", "put a 0", "put -1 a", "put +1 a", "put 00 a",
    "put 01 a", "put 100 a", "put 0.00 a", "put 0.01 a", "put 0.100 a", "put .0 a", "put 0. a", "put . a", "put 0..0 a",
    "put 0,0 a", "put (0,) a", "put 0.a a", "put 1/2 a", "put a.0 a", "put () a", "put 0x1 a", "put 1_0 a", "put 1e1 a",
    "put 000 a", "put 0.1.00 a", "put 0.-1 a", "put 0\t a", "put\t0 a", "put 0\ta", "put 0\na", "put 0\n a", "sign\n", "\tsign",
    "cut", "cut 0", "cut 0 across", "cut 0 across 1/2", "cut 0 across 1/2 a b", "cut 0 across 1/2 ", "cut 0 across  a",
    "cut 0 across 12 a", "cut 0 across 1/ a", "cut 0 across /2 a", "cut 0 across / a", "cut 0 across 01/2 a",
    "cut 0 across 1/02 a", "cut 0 across 00/1 a", "cut 0 across 1/00 a", "cut 0 across -1/2 a", "cut 0 across 1/-2 a",
    "cut 0 across +1/2 a", "cut 0 across 1/2/3 a", "cut 0 across 1//2 a", "cut 0 across 1 2 a", "cut 0 across half a",
    "cut 0 across 1.2 a", "cut 0 across 1/2a a", "cut 0 across 0.5 a", "cut 00 across 1/2 a", "cut 0 across (1,2) a",
    "cut 0 across " + "1" * 31 + "/2 a", "cut 0 across 1/" + "1" * 31 + " a", "cut 0 across 1/2\n a", "cut 1/2 across 0 a",
    "frame", "frame 0", "frame 0 f f", "frame f 0", "frame 00 f", "frame 0. f", "frame  f", "frame 0 ", "frame 100 f",
    "turn", "turn ", "turn mirrored mirrored", "turn mirrored ", "turns mirrored", "TURN mirrored", "undo 1",
    b"sign", ["sign"], ("sign",), {"sign": 1}, "sign,order", "sign;order", "sign\norder"]


def told(session):
    return (session.picture(), session.book(), session.order())


class Answers(unittest.TestCase):
    def says(self, desk, rows):
        for row, answer in rows:
            found = desk.say(row)
            self.assertIs(type(found), str)
            self.assertEqual(found, answer, row)

    def fails(self, error, desk, row):
        before, twin = [desk.say(question) for question in QUESTIONS], desk.session()
        with self.assertRaises(error, msg=repr(row)) as caught:
            desk.say(row)
        self.assertIs(type(caught.exception), error)
        self.assertEqual([desk.say(question) for question in QUESTIONS], before)
        self.assertEqual(desk.session(), twin)
        return caught.exception

    def test_the_questions(self):
        self.says(Desk(), [
            ("sign", "across 1/2 down 1/2 part a part b down 1/2 part c part d"), ("order", "a b c d"),
            ("row", "line dot line dot"), ("puttings", "2"), ("orders", "2"), ("strokes", "4"), ("crosses", "1")])

    def test_its_session(self):
        desk = Desk()
        self.assertEqual(desk.session(), Session(Z, ACROSS, PICTURE_OF_X))
        self.assertEqual(desk.session().row(), ("line", "dot", "line", "dot"))
        with self.assertRaises(NothingToUndo):
            desk.session().undo()

    def test_the_deeds(self):
        desk = Desk()
        self.says(desk, [
            ("put 1 d", "ok"), ("order", "a d c d"), ("frame 2 f", "ok"), ("order", "a d f c d"),
            ("row", "line dot down line close dot"), ("strokes", "6"), ("cut 2.0 down 1/3 a", "ok"),
            ("sign", "across 1/2 down 1/2 part a part d down 1/2 within f down 1/3 part c part a part d"),
            ("puttings", "2"), ("cut 2.1 across 3/4 b", "ok"), ("order", "a d f c a b d"), ("orders", "2"), ("crosses", "1"),
            ("turn turned_side", "ok"), ("order", "a f c a b d d"), ("undo", "ok"), ("order", "a d f c a b d"), ("undo", "ok"),
            ("undo", "ok"), ("undo", "ok"), ("order", "a d c d"), ("undo", "ok"), ("order", "a b c d")])
        self.assertEqual(desk.session(), Session(Z, ACROSS, PICTURE_OF_X))

    def test_each_turn(self):
        for word, order in [("mirrored", "c d a b"), ("turned_over", "b a d c"), ("turned_side", "a c b d")]:
            self.says(Desk(), [(f"turn {word}", "ok"), ("order", order), ("undo", "ok"), ("order", "a b c d")])

    def test_the_first_putting_and_the_way_of_the_book(self):
        desk = Desk()
        self.says(desk, [("turn turned_side", "ok"), ("sign", "across 1/2 down 1/2 part a part c down 1/2 part b part d"),
                         ("cut 0 across 1/3 b", "ok"),
                         ("sign", "across 1/2 down 1/2 across 1/3 part a part b part c down 1/2 part b part d"), ("crosses", "1")])
        self.assertEqual(desk.say("sign"), write_sign(read_sign(desk.say("sign"))))

    def test_read(self):
        desk = Desk()
        row = "across 1/2 part a across 1/2 part b part c"
        self.says(desk, [
            ("read part a", "1"), ("read within f part d", "1"), ("read " + row, "1"), ("read " + write_sign(X), "2"),
            (f"read within f {write_sign(X)}", "2"), (f"read across 1/2 {write_sign(X)} within f {write_sign(X)}", "4"),
            (f"read across 1/2 {write_sign(X)} {write_sign(X)}", "8"), ("order", "a b c d"), ("crosses", "1")])
        with self.assertRaises(NothingToUndo):
            desk.say("undo")
        self.assertEqual(desk.session(), Session(Z, ACROSS, PICTURE_OF_X))

    def test_read_errors(self):
        desk = Desk()
        for text, index in [
                ("part", 1), ("part A", 1), ("sign", 0), ("read part a", 0), ("across 2/4 part a part b", 1), ("part a part b", 2),
                ("across 1/2 part a", 4), ("down 0/1 part a part b", 1), ("down 1/0 part a part b", 1), ("within f", 2),
                ("across 1/2 part e part", 5), ("across " + "1" * 31 + "/2 part a part b", 1), ("part\ta", 0)]:
            self.assertEqual(self.fails(BadText, desk, "read " + text).index, index)
        for text in ("part e", "part f", "within a part b", "within g part a", "across 1/2 part a part f",
                     "within f within f part x"):
            self.fails(BadSign, desk, "read " + text)

    def test_rows_of_no_form(self):
        desk = Desk()
        desk.say("frame 0 f")
        for row in NO_ROWS:
            self.fails(BadCommand, desk, row)
        for thing in (EqualToAll(), Stubborn(), None, 1, True):
            self.fails(BadCommand, desk, thing)

    def test_paths(self):
        desk = Desk()
        desk.say("frame 0 f")
        self.says(desk, [("put 0.0 b", "ok"), ("put 3 a", "ok"), ("order", "f b b c a")])
        for path in ("4", "10", "99", "0.1", "0.0.0", "1.0", "0.99", "0", "9.9.9.9.9", "0.0.0.0.0.0.0.0.0.0.0.0.0.0"):
            self.fails(BadPath, desk, f"put {path} a")
            self.fails(BadPath, desk, f"frame {path} f")
            self.fails(BadPath, desk, f"cut {path} across 1/2 a")

    def test_a_path_of_two_digits(self):
        desk = Desk()
        for at in range(8):
            self.assertEqual(desk.say(f"cut {3 + at} across 1/2 {'abcd'[at % 4]}"), "ok")
        self.says(desk, [("put 11 b", "ok"), ("order", "a b c d a b c d a b c b")])
        self.assertEqual(desk.session().picture()[11][4], B)
        self.fails(BadPath, desk, "put 12 b")
        self.fails(TooMany, desk, "cut 11 across 1/2 b")
        self.fails(TooMany, desk, "frame 11 f")

    def test_cuts(self):
        desk = Desk()
        thirty = "1" + "0" * 29
        self.says(desk, [("cut 0 across 1/5000 b", "ok"), ("undo", "ok")])
        for cut in ("0/1", "0/0", "1/0", "1/1", "2/1", "2/4", "0/5", "10/20", "3/2", f"{thirty}/{thirty}", f"{thirty}/1"):
            self.fails(BadCut, desk, f"cut 0 across {cut} a")
        for cut in (f"1/{thirty}", f"{'9' * 29}8/{'9' * 30}", "1/10007", "1/5001"):
            self.fails(TooMany, desk, f"cut 0 across {cut} a")
        self.fails(TooMany, desk, f"cut 0 down 3/{thirty} a")

    def test_errors_of_the_session(self):
        desk = Desk()
        for error, row in [
                (NothingToUndo, "undo"), (BadWord, "turn left"), (BadWord, "turn across"), (BadWord, "turn \t"),
                (BadWord, "cut 0 left 1/2 a"), (BadWord, "cut 0 Across 2/4 x"), (BadCut, "cut 0 across 2/4 x"),
                (BadName, "cut 0 across 1/2 x"), (BadName, "cut 0 across 1/2 f"), (BadName, "put 0 f"), (BadName, "put 0 ~"),
                (BadName, "put 0 a\n"), (BadName, "frame 0 a"), (BadName, "frame 0 0"), (BadPath, "cut 4 left 2/4 x"),
                (BadPath, "put 4 x"), (BadPath, "frame 4 x")]:
            self.fails(error, desk, row)

    def test_the_forms_come_first(self):
        desk = Desk()
        for row in ("cut 4 left 02/4 x", "cut 00 across 1/2 a", "put 0.00 x", "frame 1. x", "cut 4 left x y"):
            self.fails(BadCommand, desk, row)

    def test_full(self):
        desk = Desk()
        for _ in range(50):
            self.assertEqual(desk.say("turn mirrored"), "ok")
        for row in ("turn mirrored", "put 0 a", "frame 0 f", "cut 0 down 1/2 a"):
            self.fails(Full, desk, row)
        self.fails(BadName, desk, "put 0 f")
        self.fails(TooMany, desk, "cut 0 down 1/9999 a")
        self.assertEqual(desk.say("read part a"), "1")
        for _ in range(50):
            self.assertEqual(desk.say("undo"), "ok")
        self.fails(NothingToUndo, desk, "undo")

    def test_the_session_is_a_copy(self):
        desk = Desk()
        desk.say("put 0 d")
        session = desk.session()
        self.assertIsNot(session, desk.session())
        self.assertIsInstance(session, Session)
        self.assertEqual(told(session), (with_content(PICTURE_OF_X, 0, D), ACROSS, ((0,), (1,), (2,), (3,))))
        session.turn("turned_side")
        session.frame((0,), "f")
        self.assertEqual(desk.say("order"), "d b c d")
        other = desk.session()
        other.undo()
        self.assertEqual(other.picture(), PICTURE_OF_X)
        self.assertEqual(desk.say("order"), "d b c d")
        desk.say("undo")
        self.assertEqual(session.picture()[0][4], ("within", "f", (WHOLE + (D,),)))

    def test_two_desks(self):
        one, other = Desk(), Desk()
        one.say("turn turned_side")
        self.assertEqual(one.session().picture(), turned_side(PICTURE_OF_X))
        self.assertEqual(other.session().picture(), picture_of(X))

    def test_by_name(self):
        self.assertEqual(Desk().say(row="orders"), "2")


if __name__ == "__main__":
    unittest.main()
