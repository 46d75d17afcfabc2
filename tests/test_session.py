import random
import unittest

from brushedsigns.books import written
from brushedsigns.errors import (
    BadBook, BadCut, BadKinds, BadName, BadPath, BadPicture, BadStock, BadWord, Full, NoPutting, NothingToUndo, SignError,
    TooMany)
from brushedsigns.orders import count_orders
from brushedsigns.pictures import is_picture, mirrored, paths_of, picture_of, turned_over, turned_side
from brushedsigns.session import Session
from brushedsigns.strokes import sorts_row
from tests import book_oracles, finding_oracles, oracles
from tests.drawn import (
    BARRED, FRAMED, LEFT_UPPER, ONE, PICTURE_OF_X, WHEEL, box, cell, drawn, framed_picture, grid, with_content)
from tests.oracles import WHOLE
from tests.shelf import ACROSS, DOWN_FIRST, MIXED, Z, book_by_chance, put_pictures
from tests.test_books import ANY, BOOK, NO_WORDS, RULE, no_books
from tests.test_pictures import no_paths
from tests.test_stocks import NO_NAMES
from tests.things import A, B, C, D, EqualToAll, HALF, Stubborn, X, objects, with_lists

WORDS = ("mirrored", "turned_over", "turned_side")
NO_TURNS = objects() + NO_WORDS + ["across", "down", "left", "turned", "Mirrored", "mirrored ", "turned_over\n", ("mirrored",)]
NO_CUTS = objects() + with_lists(HALF) + [
    (0, 1), (1, 1), (2, 4), (3, 2), (-1, 2), (1, 0), (1, -2), (-1, -2), (0, 2), (1,), (1, 2, 3), (True, 2), (1, True), "1/2",
    (1, "2"), (None, 2), (EqualToAll(), 2), (1, EqualToAll()), (1, Stubborn()), (HALF,), ((1, 2), (1, 2))]
NO_CUTS = [thing for thing in NO_CUTS if repr(thing) != "(1, 2)"]
NO_RULE_KINDS = objects() + with_lists(ANY) + [
    ANY[:3], ANY + (None,), ("a", "b", "c", ""), ("a", "b", "c", "D"), ("a", "b", "c", True), (False, None, None, None),
    ("abcdefghi", None, None, None), "abcd", RULE, (("a",), None, None, None), (EqualToAll(), None, None, None),
    (None, None, None, Stubborn()), (0, None, None, None)]
NO_RULE_KINDS = [thing for thing in NO_RULE_KINDS if repr(thing) != repr(ANY)]


def of_x():
    return Session(Z, ACROSS, PICTURE_OF_X)


def state(session):
    return (session.picture(), session.book(), session.order(), session.row(), session.choices())


class Holding(unittest.TestCase):
    def test_what_it_holds(self):
        for book in (ACROSS, DOWN_FIRST, BOOK):
            for picture in (ONE, PICTURE_OF_X, FRAMED, framed_picture(FRAMED)):
                session = Session(Z, book, picture)
                self.assertEqual(session.picture(), picture)
                self.assertEqual(session.book(), book)
                self.assertEqual(session.order(), written(Z, book, picture))
                self.assertEqual(session.row(), sorts_row(Z, book, picture))
                self.assertEqual(session.choices(), count_orders(picture))
        session = Session(picture=FRAMED, book=DOWN_FIRST, stock=Z)
        self.assertEqual(state(session), (
            FRAMED, DOWN_FIRST, ((0,), (1,), (1, 0), (1, 2), (1, 1), (1, 3), (2,)),
            ("line", "down", "line", "line", "dot", "dot", "close", "dot"), 2))

    def test_errors(self):
        for thing in objects():
            for book in (ACROSS, None):
                with self.assertRaises(BadStock):
                    Session(thing, book, None)
        for thing in no_books():
            for picture in (PICTURE_OF_X, None, WHEEL):
                with self.assertRaises(BadBook):
                    Session(Z, thing, picture)
        for thing in objects() + with_lists(PICTURE_OF_X) + [X, WHEEL, BARRED, framed_picture(ONE, "g"), framed_picture(ONE, "a")]:
            with self.assertRaises(BadPicture):
                Session(Z, ACROSS, thing)
        stock = (Z[0] + (("e",) + Z[0][0][1:],), Z[1])
        for picture in (WHEEL, BARRED, framed_picture(WHEEL)):
            with self.assertRaises(NoPutting):
                Session(stock, ACROSS, picture)


class Deeds(unittest.TestCase):
    def check(self, deed, picture, book=ACROSS, before=PICTURE_OF_X):
        """The deed makes of a session what is said, and it can be taken back."""
        session = Session(Z, ACROSS, before)
        first = state(session)
        self.assertIsNone(deed(session))
        self.assertEqual(session.picture(), picture)
        self.assertEqual(session.book(), book)
        self.assertTrue(is_picture(session.picture()))
        self.assertEqual(session.order(), written(Z, book, picture))
        self.assertEqual(session.row(), sorts_row(Z, book, picture))
        self.assertEqual(session.choices(), count_orders(picture))
        self.assertIsNone(session.undo())
        self.assertEqual(state(session), first)
        with self.assertRaises(NothingToUndo):
            session.undo()

    def fails(self, error, deed, session):
        before, twin = state(session), session.copy()
        with self.assertRaises(error) as caught:
            deed(session)
        self.assertIs(type(caught.exception), error)
        self.assertEqual(state(session), before)
        self.assertEqual(session, twin)

    def test_put(self):
        self.check(lambda session: session.put((1,), "d"), with_content(PICTURE_OF_X, 1, D))
        self.check(lambda session: session.put(path=(0,), name="c"), with_content(PICTURE_OF_X, 0, C))
        self.check(lambda session: session.put((0,), "a"), PICTURE_OF_X)
        inner = with_content(PICTURE_OF_X, 2, A)
        self.check(lambda session: session.put((1, 2), "a"), with_content(FRAMED, 1, ("within", "f", inner)), before=FRAMED)
        deep = framed_picture(framed_picture(ONE))
        self.check(lambda session: session.put((0, 0, 0), "b"), framed_picture(framed_picture((WHOLE + (B,),))), before=deep)

    def test_put_errors(self):
        for path in no_paths(PICTURE_OF_X) + [()]:
            for name in ("a", None):
                self.fails(BadPath, lambda session: session.put(path, name), of_x())
        for path in no_paths(FRAMED) + [(), (1,)]:
            self.fails(BadPath, lambda session: session.put(path, "a"), Session(Z, ACROSS, FRAMED))
        for name in NO_NAMES + ["e", "f", "aa"]:
            self.fails(BadName, lambda session: session.put((0,), name), of_x())

    def test_cut(self):
        self.check(lambda session: session.cut((1,), "across", (1, 3), "c"), drawn(
            PICTURE_OF_X[0], cell("0 1/6 1/2 1", B), cell("1/6 1/2 1/2 1", C), *PICTURE_OF_X[2:]))
        self.check(lambda session: session.cut((2,), "down", (2, 3), "c"), drawn(
            *PICTURE_OF_X[:2], cell("1/2 1 0 1/3", C), cell("1/2 1 1/3 1/2", C), PICTURE_OF_X[3]))
        self.check(lambda session: session.cut(path=(0,), word="down", cut=HALF, name="b"), picture_of(
            ("down", HALF, A, B)), before=ONE)
        inner = picture_of(("across", HALF, ("down", HALF, A, B), ("down", HALF, C, ("across", (1, 4), D, A))))
        self.check(lambda session: session.cut((1, 3), "across", (1, 4), "a"), with_content(FRAMED, 1, ("within", "f", inner)),
                   before=FRAMED)

    def test_a_cut_is_a_share_of_the_cell(self):
        session = Session(Z, ACROSS, drawn(cell("0 1/3 0 1"), cell("1/3 1 0 1/4", B), cell("1/3 1 1/4 1", C)))
        session.cut((2,), "across", (1, 4), "d")
        self.assertEqual(session.picture()[1], box("1/3 1/2 1/4 1") + (C,))
        self.assertEqual(session.picture()[3], box("1/2 1 1/4 1") + (D,))

    def test_cut_keeps_the_cells_in_their_sequence(self):
        # The right piece stands behind the cells below.
        session = Session(Z, ACROSS, picture_of(("down", HALF, A, B)))
        session.cut((0,), "across", HALF, "c")
        self.assertEqual([entry[4] for entry in session.picture()], [A, B, C])
        self.assertEqual(session.order(), ((0,), (2,), (1,)))

    def test_cut_errors(self):
        for path in no_paths(FRAMED) + [(), (1,)]:
            for word, cut, name in [("across", HALF, "a"), (None, None, None)]:
                self.fails(BadPath, lambda session: session.cut(path, word, cut, name), Session(Z, ACROSS, FRAMED))
        for word in NO_WORDS + ["mirrored", "part"]:
            for cut, name in [(HALF, "a"), (None, None)]:
                self.fails(BadWord, lambda session: session.cut((0,), word, cut, name), of_x())
        for cut in NO_CUTS:
            for name in ("a", None):
                self.fails(BadCut, lambda session: session.cut((0,), "down", cut, name), of_x())
        for name in NO_NAMES + ["e", "f"]:
            self.fails(BadName, lambda session: session.cut((0,), "down", HALF, name), of_x())

    def test_cut_with_too_many_parts(self):
        session = Session(Z, ACROSS, framed_picture(grid_of_four(2, 5)))
        session.cut((0, 0), "across", HALF, "d")
        self.fails(TooMany, lambda session: session.cut((0, 0), "down", HALF, "d"), session)
        self.fails(BadName, lambda session: session.cut((0, 0), "down", HALF, "f"), session)
        self.fails(TooMany, lambda session: session.frame((0, 0), "f"), session)
        session.put((0, 0), "d")
        session.undo()
        session.undo()
        session.frame((0, 3), "f")
        self.fails(TooMany, lambda session: session.cut((0, 3, 0), "down", HALF, "d"), session)

    def test_cut_with_too_great_a_bottom(self):
        session = of_x()
        session.cut((0,), "across", (1, 5000), "b")
        self.assertEqual(session.picture()[0][1], (1, 10000))
        session.undo()
        for cut in [(1, 10001), (1, 5001), (5000, 10001), (1, 10 ** 29), (10 ** 29, 10 ** 29 + 1)]:
            self.fails(TooMany, lambda session: session.cut((0,), "across", cut, "b"), session)
            self.fails(TooMany, lambda session: session.cut((0,), "down", cut, "b"), session)
        self.fails(TooMany, lambda session: session.cut((1, 0), "down", (1, 6007), "b"), Session(Z, ACROSS, FRAMED))

    def test_frame(self):
        self.check(lambda session: session.frame((3,), "f"), with_content(PICTURE_OF_X, 3, ("within", "f", (WHOLE + (D,),))))
        self.check(lambda session: session.frame(path=(0,), name="f"), framed_picture(ONE), before=ONE)
        inner = with_content(PICTURE_OF_X, 1, ("within", "f", (WHOLE + (B,),)))
        self.check(lambda session: session.frame((1, 1), "f"), with_content(FRAMED, 1, ("within", "f", inner)), before=FRAMED)

    def test_frames_within_frames(self):
        session = Session(Z, ACROSS, ONE)
        for deep in range(11):
            session.frame((0,) * (deep + 1), "f")
        self.assertEqual(session.order(), tuple((0,) * deep for deep in range(1, 13)))
        self.assertEqual(session.row(), ("down",) * 11 + ("line",) + ("close",) * 11)
        self.fails(TooMany, lambda session: session.frame((0,) * 12, "f"), session)
        self.fails(BadPath, lambda session: session.frame((0,) * 11, "f"), session)
        session.put((0,) * 12, "d")
        self.assertEqual(session.row()[11], "dot")

    def test_frame_errors(self):
        for path in no_paths(FRAMED) + [(), (1,)]:
            for name in ("f", None):
                self.fails(BadPath, lambda session: session.frame(path, name), Session(Z, ACROSS, FRAMED))
        for name in NO_NAMES + ["a", "g", "ff"]:
            self.fails(BadName, lambda session: session.frame((0,), name), of_x())

    def test_turn(self):
        for before in (PICTURE_OF_X, FRAMED, framed_picture(FRAMED)):
            self.check(lambda session: session.turn("mirrored"), mirrored(before), before=before)
            self.check(lambda session: session.turn("turned_over"), turned_over(before), before=before)
            self.check(lambda session: session.turn(word="turned_side"), turned_side(before), before=before)

    def test_turn_errors(self):
        for word in NO_TURNS:
            self.fails(BadWord, lambda session: session.turn(word), of_x())

    def test_rule(self):
        kinds = ("a", None, "b", "d")
        self.check(lambda session: session.rule(kinds, "down"), PICTURE_OF_X, (LEFT_UPPER, (kinds + ("down",),), "across"))
        self.check(lambda session: session.rule(kinds=ANY, word="across"), PICTURE_OF_X, (LEFT_UPPER, (ANY + ("across",),), "across"))
        session = Session(Z, BOOK, PICTURE_OF_X)
        session.rule(("zz", "a", "a", "a"), "down")
        session.rule(ANY, "down")
        self.assertEqual(session.book(), (LEFT_UPPER, (ANY + ("down",), ("zz", "a", "a", "a", "down")) + BOOK[1], "across"))
        self.assertEqual(session.order(), ((0,), (2,), (1,), (3,)))
        session.undo()
        self.assertEqual(session.order(), ((0,), (1,), (2,), (3,)))

    def test_rule_errors(self):
        for kinds in NO_RULE_KINDS:
            for word in ("down", None):
                self.fails(BadKinds, lambda session: session.rule(kinds, word), of_x())
        for word in NO_WORDS + ["mirrored"]:
            self.fails(BadWord, lambda session: session.rule(ANY, word), of_x())

    def test_thirty_rules_and_the_next_one(self):
        session = of_x()
        for at in range(30):
            session.rule((f"k{at}", None, None, None), "down")
        self.assertEqual(len(session.book()[1]), 30)
        self.assertEqual(session.book()[1][0][0], "k29")
        self.fails(TooMany, lambda session: session.rule(ANY, "down"), session)
        self.fails(BadWord, lambda session: session.rule(ANY, "left"), session)
        session.undo()
        session.rule(ANY, "down")
        self.fails(TooMany, lambda session: session.rule(ANY, "down"), session)
        self.fails(TooMany, lambda session: session.rule(ANY, "down"), Session(Z, (LEFT_UPPER, (RULE,) * 30, "down"), ONE))


class Undoing(unittest.TestCase):
    def test_nothing_to_undo(self):
        session = of_x()
        with self.assertRaises(NothingToUndo):
            session.undo()
        session.turn("mirrored")
        session.undo()
        with self.assertRaises(NothingToUndo):
            session.undo()
        self.assertEqual(session, of_x())

    def test_the_last_one_first(self):
        session = of_x()
        states = []
        for deed in [lambda: session.put((0,), "b"), lambda: session.rule(ANY, "down"), lambda: session.turn("turned_side"),
                     lambda: session.frame((0,), "f"), lambda: session.cut((0, 0), "across", HALF, "a")]:
            states.append(state(session))
            deed()
        for before in states[::-1]:
            session.undo()
            self.assertEqual(state(session), before)

    def test_fifty_deeds_and_the_next_one(self):
        session = of_x()
        for at in range(50):
            session.put((at % 4,), "abcd"[at % 3])
        before = state(session)
        for deed in [lambda: session.put((0,), "a"), lambda: session.turn("mirrored"), lambda: session.rule(ANY, "down"),
                     lambda: session.cut((0,), "down", HALF, "a"), lambda: session.frame((0,), "f")]:
            with self.assertRaises(Full):
                deed()
            self.assertEqual(state(session), before)
        session.undo()
        session.frame((0,), "f")
        with self.assertRaises(Full):
            session.turn("mirrored")
        for _ in range(50):
            session.undo()
        self.assertEqual(session, of_x())
        with self.assertRaises(NothingToUndo):
            session.undo()

    def test_full_comes_behind_all_other_errors(self):
        session = Session(Z, (LEFT_UPPER, (RULE,) * 30, "across"), grid_of_four(3, 4))
        for _ in range(25):
            session.turn("mirrored")
            session.turn("turned_over")
        for error, deed in [
                (BadPath, lambda: session.put((12,), "a")), (BadName, lambda: session.put((0,), "f")),
                (BadPath, lambda: session.cut((12,), "down", HALF, "a")), (BadWord, lambda: session.cut((0,), "left", HALF, "a")),
                (BadCut, lambda: session.cut((0,), "down", (2, 4), "a")), (BadName, lambda: session.cut((0,), "down", HALF, "e")),
                (TooMany, lambda: session.cut((0,), "down", HALF, "a")), (BadPath, lambda: session.frame((), "f")),
                (BadName, lambda: session.frame((0,), "a")), (TooMany, lambda: session.frame((0,), "f")),
                (BadWord, lambda: session.turn("left")), (BadKinds, lambda: session.rule(ANY[:3], "down")),
                (BadWord, lambda: session.rule(ANY, "left")), (TooMany, lambda: session.rule(ANY, "down")),
                (Full, lambda: session.put((0,), "a")), (Full, lambda: session.turn("mirrored"))]:
            with self.assertRaises(error):
                deed()
        self.assertEqual(session.picture(), turned_over(mirrored(grid_of_four(3, 4))))


class Equality(unittest.TestCase):
    def test_equal_sessions(self):
        self.assertTrue(of_x() == of_x())
        self.assertFalse(of_x() != of_x())
        session = of_x()
        session.put((0,), "a")
        self.assertTrue(session == of_x())
        session.put((0,), "b")
        self.assertFalse(session == of_x())
        self.assertTrue(session == Session(Z, ACROSS, with_content(PICTURE_OF_X, 0, B)))

    def test_unlike_sessions(self):
        stock = (Z[0][:3] + (("d", "k", Z[0][3][2]),), Z[1])
        for other in (Session(stock, ACROSS, PICTURE_OF_X), Session(Z, DOWN_FIRST, PICTURE_OF_X),
                      Session(Z, ACROSS, mirrored(PICTURE_OF_X))):
            self.assertFalse(of_x() == other)
            self.assertTrue(of_x() != other)

    def test_other_kinds(self):
        for thing in objects() + [PICTURE_OF_X, Z, ACROSS, (Z, ACROSS, PICTURE_OF_X), [Z, ACROSS, PICTURE_OF_X], SignError]:
            self.assertIs(of_x() == thing, False)
            self.assertIs(of_x() != thing, True)
        self.assertIs(of_x().__eq__(EqualToAll()), False)


class Copies(unittest.TestCase):
    def test_a_copy_goes_its_own_way(self):
        session = of_x()
        session.put((0,), "b")
        twin = session.copy()
        self.assertIsInstance(twin, Session)
        self.assertIsNot(twin, session)
        self.assertEqual(twin, session)
        twin.turn("mirrored")
        self.assertNotEqual(twin, session)
        self.assertEqual(session.picture(), with_content(PICTURE_OF_X, 0, B))
        session.rule(ANY, "down")
        self.assertEqual(twin.book(), ACROSS)

    def test_a_copy_takes_back_the_same_deeds(self):
        session = of_x()
        session.put((0,), "b")
        session.turn("mirrored")
        twin = session.copy()
        session.undo()
        session.undo()
        with self.assertRaises(NothingToUndo):
            session.undo()
        twin.undo()
        self.assertEqual(twin.picture(), with_content(PICTURE_OF_X, 0, B))
        again = twin.copy()
        twin.undo()
        self.assertEqual(twin, of_x())
        again.undo()
        self.assertEqual(again, of_x())
        with self.assertRaises(NothingToUndo):
            again.undo()

    def test_a_full_session_is_copied_full(self):
        session = of_x()
        for _ in range(50):
            session.turn("mirrored")
        twin = session.copy()
        with self.assertRaises(Full):
            twin.turn("mirrored")
        twin.undo()
        twin.turn("mirrored")
        self.assertEqual(twin, session)
        with self.assertRaises(Full):
            session.turn("mirrored")


def grid_of_four(rows, many):
    """A grid whose parts are named a to d alone."""
    return tuple(entry[:4] + (("part", "abcd"[at % 4]),) for at, entry in enumerate(grid(rows, many)))


class ByChance(unittest.TestCase):
    """Sessions beside what the document says of each deed, told once more."""

    def test_deeds_by_chance(self):
        chance = random.Random(98)
        seen = {}
        for picture in put_pictures(25, 99, room=6):
            book = book_by_chance(chance)
            session = Session(MIXED, book, picture)
            past, now = [], (book, picture)
            for _ in range(60):
                name, arguments, wanted = self.deed(chance, now)
                seen[name, wanted is None] = seen.get((name, wanted is None), 0) + 1
                if name == "undo":
                    if past:
                        session.undo()
                        now = past.pop()
                    else:
                        with self.assertRaises(NothingToUndo):
                            session.undo()
                elif wanted is None:
                    with self.assertRaises(TooMany):
                        getattr(session, name)(*arguments)
                elif len(past) == 50:
                    with self.assertRaises(Full):
                        getattr(session, name)(*arguments)
                else:
                    self.assertIsNone(getattr(session, name)(*arguments))
                    past.append(now)
                    now = wanted
                self.assertEqual((session.book(), session.picture()), now)
            self.assertEqual(session.order(), book_oracles.write(MIXED, *now)[0])
            self.assertEqual(session.row(), book_oracles.row(MIXED, *now))
            self.assertEqual(session, Session(MIXED, *now))
        self.assertGreaterEqual(len(seen), 8)

    def deed(self, chance, now):
        """A deed that is right but for its bounds: its name, its arguments, and book and picture behind it, if they are some."""
        book, picture = now
        name = chance.choice(["put", "put", "cut", "cut", "frame", "turn", "rule", "undo"])
        if name == "undo":
            return name, (), now
        if name == "turn":
            word = chance.choice(WORDS)
            turned = {"mirrored": mirrored, "turned_over": turned_over, "turned_side": turned_side}[word]
            return name, (word,), (book, turned(picture))
        if name == "rule":
            rule = tuple(chance.choice(["k", "m", None]) for _ in range(4)) + (chance.choice(["across", "down"]),)
            more = (book[0], (rule,) + book[1], book[2])
            return name, (rule[:4], rule[4]), (more, picture) if len(more[1]) <= 30 else None
        path = chance.choice([path for path in paths_of(picture) if self.content(picture, path)[0] == "part"])
        content = self.content(picture, path)
        if name == "put":
            part = chance.choice("abcd")
            arguments, inside = (path, part), [WHOLE + (("part", part),)]
        elif name == "frame":
            frame = chance.choice("fg")
            arguments, inside = (path, frame), [WHOLE + (("within", frame, (WHOLE + (content,),)),)]
        else:
            word, cut, part = chance.choice(["across", "down"]), chance.choice([(1, 2), (2, 3), (1, 7), (3, 101)]), chance.choice("abcd")
            arguments = (path, word, cut, part)
            inside = list(oracles.picture_by((word, cut, content, ("part", part))))
        made = self.placed(picture, path, inside)
        return name, arguments, (book, made) if finding_oracles.keeps_bounds(made) else None

    def content(self, picture, path):
        for step in path[:-1]:
            picture = picture[step][4][2]
        return picture[path[-1]][4]

    def placed(self, picture, path, inside):
        entry = picture[path[0]]
        if len(path) == 1:
            return finding_oracles.filled(picture, oracles.numbers(entry), inside)
        content = entry[4][:2] + (self.placed(entry[4][2], path[1:], inside),)
        return with_content(picture, path[0], content)


if __name__ == "__main__":
    unittest.main()
