"""What holds for the arguments and results of all functions alike: the second promise."""

import copy
import inspect
import unittest
from itertools import product

from brushedsigns import books, cuts, finding, grids, learning, moving, orders, pens, pictures, signs, stocks, strokes
from brushedsigns.desk import Desk
from brushedsigns.errors import (
    BadBook, BadBox, BadCommand, BadCount, BadCut, BadGrid, BadHand, BadKinds, BadMove, BadName, BadOrder, BadPath, BadPicture,
    BadSamples, BadSign, BadSigns, BadSorts, BadStock, BadStroke, BadText, BadWord, NoPutting, TooMany)
from brushedsigns.session import Session
from tests.drawn import FRAMED, LEFT_UPPER, ONE, PICTURE_OF_X, WHEEL, framed_picture, grid
from tests.oracles import WHOLE
from tests.shelf import ACROSS, MIXED
from tests.things import A, B, EqualToAll, HALF, STOCK, Stubborn, X, nested, row

Y = moving.moved(X, ("turn", ()))
ORDER = ((0,), (1,), (1, 0), (1, 1), (1, 2), (1, 3), (2,))
# For each parameter something right, and the error for what is not.
SIGN = (X, BadSign)
OTHER_SIGN = (Y, BadSign)
PICTURE = (FRAMED, BadPicture)
OTHER_PICTURE = (WHEEL, BadPicture)
PATH = ((1,), BadPath)
BOX = (WHOLE, BadBox)
WORD = ("mirrored", BadWord)
HAND = (LEFT_UPPER, BadHand)
MOVE = (("turn", ()), BadMove)
AN_ORDER = (ORDER, BadOrder)
ANY = (None, None)
# The wheel is a picture of this stock.
WITH_E = (MIXED[0] + (("e", "k", MIXED[0][0][2]),), MIXED[1])
A_STOCK = (MIXED, BadStock)
A_BOOK = (ACROSS, BadBook)
OTHER_BOOK = ((LEFT_UPPER, (("k", None, "m", "n", "down"),), "across"), BadBook)
KINDS = (("k", "m", "n", "k"), BadKinds)
SAMPLES = (((FRAMED, ORDER),), BadSamples)
SIGNS = ((("one", FRAMED), ("two", PICTURE_OF_X), ("three", FRAMED)), BadSigns)
SORTS = (("line",), BadSorts)
STROKE = (1, BadStroke)
GRID = ((("a", "b"), ("c", "d")), BadGrid)
ROWS = (3, BadCount)
COLUMNS = (4, BadCount)
PART_PATH = ((0,), BadPath)
CUT_WORD = ("down", BadWord)
PART_NAME = ("b", BadName)


def of_session(name):
    """A function that does a deed in a new session, and returns the picture and the book behind it."""
    def done(*things, **named):
        session = Session(MIXED, ACROSS, FRAMED)
        getattr(session, name)(*things, **named)
        return session.picture(), session.book()

    done.__name__ = name
    done.__signature__ = inspect.Signature(list(inspect.signature(getattr(Session, name)).parameters.values())[1:])
    return done


def said(row):
    return Desk().say(row)


def held(stock, book, picture):
    return Session(stock, book, picture).order()


FUNCTIONS = {
    stocks.is_stock: {"thing": ANY},
    stocks.kind_of: {"stock": A_STOCK, "name": ("a", BadName)},
    stocks.sorts_of: {"stock": A_STOCK, "name": ("a", BadName)},
    signs.is_sign: {"thing": ANY},
    signs.size_of: {"sign": SIGN},
    signs.depth_of: {"sign": SIGN},
    signs.write_sign: {"sign": SIGN},
    signs.read_sign: {"text": ("part a", BadText)},
    pictures.is_picture: {"thing": ANY},
    pictures.picture_of: {"sign": SIGN},
    pictures.paths_of: {"picture": PICTURE},
    pictures.content_at: {"picture": PICTURE, "path": PATH},
    pictures.box_at: {"picture": PICTURE, "path": PATH},
    pictures.level_at: {"picture": PICTURE, "path": PATH},
    pictures.mirrored: {"picture": PICTURE},
    pictures.turned_over: {"picture": PICTURE},
    pictures.turned_side: {"picture": PICTURE},
    pictures.moved_path: {"picture": PICTURE, "word": WORD, "path": PATH},
    cuts.cuts_of: {"picture": PICTURE, "box": BOX},
    cuts.boxes_of: {"picture": PICTURE},
    cuts.cells_in: {"picture": PICTURE, "box": BOX},
    cuts.count_puttings: {"picture": PICTURE},
    cuts.first_putting: {"picture": PICTURE},
    cuts.puttings: {"picture": PICTURE},
    cuts.is_putting: {"picture": PICTURE, "thing": ANY},
    cuts.bar_of: {"picture": PICTURE},
    cuts.bar_holds: {"picture": PICTURE, "thing": ANY},
    cuts.ranks_of: {"picture": PICTURE},
    cuts.same_shape: {"picture": PICTURE, "other": OTHER_PICTURE},
    cuts.evened: {"picture": PICTURE},
    moving.moves_of: {"sign": SIGN},
    moving.moved: {"sign": SIGN, "move": MOVE},
    moving.moves_between: {"sign": SIGN, "other": OTHER_SIGN},
    moving.moves_lead: {"sign": SIGN, "other": OTHER_SIGN, "thing": ANY},
    moving.all_led: {"sign": SIGN},
    moving.plain: {"sign": SIGN},
    orders.order_of: {"sign": SIGN, "hand": HAND},
    orders.orders_of: {"picture": PICTURE, "hand": HAND},
    orders.count_orders: {"picture": PICTURE},
    orders.crosses_of: {"picture": PICTURE},
    orders.one_order: {"picture": PICTURE},
    orders.unlike_parts: {"picture": PICTURE, "hand": HAND},
    orders.order_putting: {"picture": PICTURE, "hand": HAND, "order": AN_ORDER},
    orders.order_bar: {"picture": PICTURE, "hand": HAND, "order": AN_ORDER},
    orders.order_bar_holds: {"picture": PICTURE, "hand": HAND, "order": AN_ORDER, "thing": ANY},
    books.word_at: {"stock": A_STOCK, "book": A_BOOK, "kinds": KINDS},
    books.written: {"stock": A_STOCK, "book": A_BOOK, "picture": PICTURE},
    books.written_putting: {"stock": A_STOCK, "book": A_BOOK, "picture": PICTURE},
    books.asked_of: {"stock": A_STOCK, "book": A_BOOK, "picture": PICTURE},
    books.books_apart: {"stock": A_STOCK, "book": A_BOOK, "other": OTHER_BOOK},
    books.cleaned: {"stock": A_STOCK, "book": OTHER_BOOK},
    books.mirrored_book: {"book": OTHER_BOOK},
    books.turned_over_book: {"book": OTHER_BOOK},
    books.side_book: {"book": OTHER_BOOK},
    learning.hands_for: {"stock": A_STOCK, "samples": SAMPLES},
    learning.choices_for: {"stock": A_STOCK, "samples": SAMPLES, "hand": HAND},
    learning.learned: {"stock": A_STOCK, "samples": SAMPLES, "hand": HAND},
    learning.choice_fault: {"stock": A_STOCK, "samples": SAMPLES, "hand": HAND},
    strokes.strokes_of: {"stock": A_STOCK, "book": A_BOOK, "picture": PICTURE},
    strokes.sorts_row: {"stock": A_STOCK, "book": A_BOOK, "picture": PICTURE},
    strokes.count_strokes: {"stock": A_STOCK, "picture": PICTURE},
    strokes.found_by: {"stock": A_STOCK, "book": A_BOOK, "signs": SIGNS, "sorts": SORTS},
    strokes.telling: {"stock": A_STOCK, "book": A_BOOK, "signs": SIGNS},
    strokes.same_rows: {"stock": A_STOCK, "book": A_BOOK, "signs": SIGNS},
    strokes.next_sorts: {"stock": A_STOCK, "book": A_BOOK, "signs": SIGNS, "sorts": SORTS},
    strokes.telling_places: {"stock": A_STOCK, "book": A_BOOK, "signs": (SIGNS[0][1:2], BadSigns)},
    strokes.unlike_by: {"stock": A_STOCK, "book": A_BOOK, "other": OTHER_BOOK, "signs": SIGNS},
    pens.points_of: {"stock": A_STOCK, "picture": PICTURE, "path": PATH, "index": STROKE},
    pens.pen_way: {"stock": A_STOCK, "picture": PICTURE},
    pens.lifts_of: {"stock": A_STOCK, "book": A_BOOK, "picture": PICTURE},
    pens.lift_sum: {"stock": A_STOCK, "book": A_BOOK, "picture": PICTURE},
    pens.least_lifts: {"stock": A_STOCK, "picture": PICTURE, "hand": HAND},
    finding.taken_out: {"picture": PICTURE, "box": BOX},
    finding.found_in: {"picture": PICTURE, "other": OTHER_PICTURE},
    finding.put_in: {"picture": PICTURE, "box": BOX, "other": OTHER_PICTURE},
    finding.exchanged: {"picture": PICTURE, "other": (PICTURE_OF_X, BadPicture), "third": (ONE, BadPicture)},
    finding.least_unlike: {"picture": PICTURE, "other": OTHER_PICTURE},
    finding.one_part_apart: {"stock": A_STOCK, "signs": SIGNS},
    finding.parts_in: {"picture": PICTURE},
    finding.signs_with: {"stock": A_STOCK, "signs": SIGNS, "picture": PICTURE},
    grids.grid_picture: {"grid": GRID},
    grids.grid_puttings: {"rows": ROWS, "columns": COLUMNS},
    grids.grid_orders: {"rows": ROWS, "columns": COLUMNS},
    grids.grid_ways: {"grid": GRID, "hand": HAND},
    held: {"stock": A_STOCK, "book": A_BOOK, "picture": PICTURE},
    of_session("put"): {"path": PART_PATH, "name": PART_NAME},
    of_session("cut"): {"path": PART_PATH, "word": CUT_WORD, "cut": ((2, 3), BadCut), "name": PART_NAME},
    of_session("frame"): {"path": PART_PATH, "name": ("g", BadName)},
    of_session("turn"): {"word": ("turned_side", BadWord)},
    of_session("rule"): {"kinds": (("k", None, None, "n"), BadKinds), "word": CUT_WORD},
    said: {"row": ("orders", BadCommand)},
}
# What is right for none of the parameters that raise an error.
WRONG = [
    None, True, False, 7, -1, 10 ** 30 - 1, "", "x", "left", b"mirrored", [], [X], ["turn", ()], {}, set(), object(), len, (None,),
    (True, False), (False,), (WHOLE, None), STOCK, A + B, [(0,)], ((0,), True), nested((), 55), EqualToAll(), Stubborn(),
    (EqualToAll(), EqualToAll()), (Stubborn(),), ((0, 1), (True, True), (0, 1), (1, 1))]
# Those of them that are right for one kind of argument.
RIGHT_FOR = {BadStock: [STOCK], BadKinds: [A + B], BadSorts: [A + B], BadCount: [7]}
# Functions whose result is a list, with what makes one that is not empty.
LISTS = [
    (cuts.cuts_of, [FRAMED, WHOLE]), (cuts.boxes_of, [FRAMED]), (cuts.boxes_of, [WHEEL]), (cuts.puttings, [FRAMED]),
    (cuts.puttings, [(WHOLE + (A,),)]), (cuts.puttings, [framed_picture(PICTURE_OF_X)]), (moving.moves_of, [X]),
    (moving.moves_between, [X, Y]), (moving.all_led, [X]), (orders.orders_of, [FRAMED, LEFT_UPPER]),
    (orders.orders_of, [(WHOLE + (A,),), LEFT_UPPER]), (orders.crosses_of, [FRAMED]),
    (orders.unlike_parts, [FRAMED, LEFT_UPPER]), (books.asked_of, [MIXED, ACROSS, FRAMED]),
    (learning.hands_for, [MIXED, ()]), (learning.choices_for, [MIXED, SAMPLES[0], LEFT_UPPER]),
    (strokes.found_by, [MIXED, ACROSS, SIGNS[0], SORTS[0]]), (strokes.telling, [MIXED, ACROSS, SIGNS[0]]),
    (strokes.next_sorts, [MIXED, ACROSS, SIGNS[0], SORTS[0]]), (pens.lifts_of, [MIXED, ACROSS, FRAMED]),
    (strokes.unlike_by, [MIXED, ACROSS, (("right", "upper"), (), "across"), SIGNS[0]]),
    (finding.found_in, [FRAMED, PICTURE_OF_X]), (finding.parts_in, [FRAMED]), (finding.signs_with, [MIXED, SIGNS[0], ONE]),
    (finding.one_part_apart, [MIXED, (("one", ONE), ("two", (WHOLE + (B,),)))]), (grids.grid_ways, [GRID[0], LEFT_UPPER])]
LISTS_OF_LISTS = [(strokes.same_rows, [MIXED, ACROSS, SIGNS[0]])]
EMPTY_LISTS = [
    (cuts.cuts_of, [WHEEL, WHOLE]), (cuts.puttings, [WHEEL]), (moving.moves_of, [A]), (moving.moves_between, [A, A]),
    (orders.orders_of, [WHEEL, LEFT_UPPER]), (orders.crosses_of, [WHEEL]), (orders.unlike_parts, [WHEEL, LEFT_UPPER]),
    (books.asked_of, [MIXED, ACROSS, ONE]), (learning.choices_for, [MIXED, (), LEFT_UPPER]),
    (learning.hands_for, [MIXED, ((PICTURE_OF_X, ((0,), (3,), (1,), (2,))),)]),
    (strokes.found_by, [MIXED, ACROSS, SIGNS[0], ("zz",)]), (strokes.same_rows, [MIXED, ACROSS, SIGNS[0][:2]]),
    (strokes.next_sorts, [MIXED, ACROSS, SIGNS[0], ("zz",)]), (strokes.unlike_by, [MIXED, ACROSS, ACROSS, SIGNS[0]]),
    (pens.lifts_of, [MIXED, ACROSS, ONE]), (finding.found_in, [FRAMED, WHEEL]), (finding.one_part_apart, [MIXED, SIGNS[0]]),
    (finding.signs_with, [MIXED, SIGNS[0][:1], (WHOLE + (("within", "g", ONE),),)])]


def wrong_for(error):
    right = [repr(thing) for thing in RIGHT_FOR.get(error, [])]
    return [thing for thing in WRONG if repr(thing) not in right]


def lists_in(thing):
    """All lists in a result, itself among them."""
    if not isinstance(thing, (list, tuple)):
        return []
    return [thing] * isinstance(thing, list) + [found for entry in thing for found in lists_in(entry)]


class Arguments(unittest.TestCase):
    def test_by_position_and_by_name(self):
        for function, told in FUNCTIONS.items():
            right = {name: thing for name, (thing, _) in told.items()}
            self.assertEqual(list(inspect.signature(function).parameters), list(told))
            self.assertEqual(function(*right.values()), function(**right))
            self.assertEqual(function(**right), function(**dict(reversed(list(right.items())))))

    def test_any_object_that_is_wrong_raises_the_error_of_its_parameter(self):
        for function, told in FUNCTIONS.items():
            for name, (_, error) in told.items():
                if error is not None:
                    for wrong in wrong_for(error):
                        things = {other: thing for other, (thing, _) in told.items()}
                        things[name] = wrong
                        with self.assertRaises(error, msg=f"{function.__name__} {name} {wrong!r}"):
                            function(**things)

    def test_the_first_wrong_argument_raises_its_error(self):
        for function, told in FUNCTIONS.items():
            named = [name for name in told if told[name][1] is not None]
            for marks in product([False, True], repeat=len(named)):
                wrong_names = [name for name, mark in zip(named, marks) if mark]
                if wrong_names:
                    for wrong in (None, [], EqualToAll()):
                        things = {name: wrong if name in wrong_names else told[name][0] for name in told}
                        with self.assertRaises(told[wrong_names[0]][1]):
                            function(**things)

    def test_errors_are_of_that_class_alone(self):
        for function, told in FUNCTIONS.items():
            name, (_, error) = list(told.items())[0]
            if error is not None:
                with self.assertRaises(error) as caught:
                    function(*[None] * len(told))
                self.assertIs(type(caught.exception), error)

    def test_too_many_comes_behind_all_others(self):
        with self.assertRaises(TooMany):
            cuts.puttings(grid(1, 12))
        with self.assertRaises(BadPicture):
            cuts.puttings(framed_picture(grid(1, 12)))
        with self.assertRaises(TooMany):
            moving.all_led(row(12))
        with self.assertRaises(BadSign):
            moving.all_led(row(13))

    def test_what_is_wrong_within_an_argument_raises_the_error_of_the_whole(self):
        for book in [(("left", "left"), (), "across"), (LEFT_UPPER, ((None, None, None, None, "left"),), "across")]:
            with self.assertRaises(BadBook):
                books.written(MIXED, book, FRAMED)
        for stock in (MIXED, WITH_E):
            for picture in (WHEEL, framed_picture(WHEEL), framed_picture(ONE, "h"), X, None):
                order = pictures.paths_of(picture) if pictures.is_picture(picture) else ((0,),)
                with self.assertRaises(BadSamples):
                    learning.hands_for(stock, ((picture, order),))
                with self.assertRaises(BadSigns):
                    strokes.telling(stock, ACROSS, (("one", picture),))

    def test_no_putting_behind_bad_picture_and_ahead_of_what_follows(self):
        for function in (books.written, books.written_putting, books.asked_of, strokes.strokes_of, strokes.sorts_row,
                         pens.lifts_of, pens.lift_sum):
            with self.assertRaises(NoPutting):
                function(WITH_E, ACROSS, WHEEL)
            with self.assertRaises(BadPicture):
                function(MIXED, ACROSS, WHEEL)
            with self.assertRaises(BadBook):
                function(WITH_E, None, WHEEL)
        with self.assertRaises(NoPutting):
            pens.least_lifts(WITH_E, WHEEL, None)
        with self.assertRaises(BadPicture):
            pens.least_lifts(MIXED, WHEEL, None)

    def test_arguments_are_not_changed(self):
        for function, told in FUNCTIONS.items():
            things = {name: thing for name, (thing, _) in told.items()}
            before = copy.deepcopy(things)
            function(**things)
            self.assertEqual(things, before)
        moves = [("turn", ()), ("turn", ()), ("turn", ())]
        moving.moves_lead(X, Y, moves)
        self.assertEqual(moves, [("turn", ())] * 3)
        listed = [["turn", []], ["across", [1, 2], ["part", "a"], ["part", "b"]]]
        before = copy.deepcopy(listed)
        for function, told in FUNCTIONS.items():
            for name in told:
                things = {other: thing for other, (thing, _) in told.items()}
                things[name] = listed
                try:
                    function(**things)
                except ValueError:
                    pass
                self.assertEqual(listed, before)


class Results(unittest.TestCase):
    def test_lists_are_new(self):
        for function, things in LISTS + LISTS_OF_LISTS + EMPTY_LISTS:
            first, second = function(*things), function(*things)
            self.assertIs(type(first), list)
            self.assertEqual(first, second)
            self.assertIsNot(first, second)
            kept = list(second)
            first.append("more")
            del first[0]
            self.assertEqual(second, kept)
            self.assertEqual(function(*things), kept)

    def test_they_are_what_they_are_said_to_be(self):
        for function, things in LISTS:
            self.assertTrue(function(*things))
        for function, things in EMPTY_LISTS:
            self.assertEqual(function(*things), [])

    def test_no_list_stands_in_a_list_or_tuple(self):
        for function, things in LISTS + EMPTY_LISTS:
            self.assertEqual(len(lists_in(function(*things))), 1)
        for function, told in FUNCTIONS.items():
            result = function(*[thing for thing, _ in told.values()])
            if not isinstance(result, list):
                self.assertEqual(lists_in(result), [])

    def test_no_list_stands_in_two_places(self):
        for function, things in LISTS_OF_LISTS:
            for results in ([function(*things)], [function(*things), function(*things)]):
                found = lists_in(results)
                self.assertGreater(len(found), 1 + len(results))
                self.assertEqual(len({id(thing) for thing in found}), len(found))

    def test_equal_calls_return_equal_results(self):
        for function, told in FUNCTIONS.items():
            things = [thing for thing, _ in told.values()]
            self.assertEqual(function(*things), function(*copy.deepcopy(things)))

    def test_judges_return_true_or_false(self):
        for function, things in [
                (pictures.is_picture, [WHEEL]), (cuts.is_putting, [PICTURE_OF_X, X]), (cuts.bar_holds, [WHEEL, ((), WHOLE)]),
                (cuts.same_shape, [WHEEL, WHEEL]), (moving.moves_lead, [X, Y, [("turn", ())]]),
                (orders.one_order, [grid(1, 3)]),
                (orders.order_bar_holds, [WHEEL, LEFT_UPPER, ((0,), (1,), (2,), (3,), (4,)), ((), WHOLE)])]:
            self.assertIs(function(*things), True)
        for function, told in FUNCTIONS.items():
            if list(told)[-1] == "thing":
                for wrong in wrong_for(BadStock):
                    self.assertIs(function(*[thing for thing, _ in list(told.values())[:-1]], wrong), False)

    def test_counts_are_integers(self):
        for function in (cuts.count_puttings, orders.count_orders):
            for picture in (WHEEL, PICTURE_OF_X, (WHOLE + (A,),)):
                self.assertIs(type(function(picture)), int)
        for function in (grids.grid_puttings, grids.grid_orders):
            self.assertIs(type(function(1, 1)), int)
        self.assertIs(type(strokes.count_strokes(MIXED, ONE)), int)
        self.assertIs(type(Session(MIXED, ACROSS, ONE).choices()), int)

    def test_ascending_as_numbers(self):
        picture = pictures.picture_of(("across", HALF, ("across", (2, 3), A, B), A))
        self.assertEqual([cell[0] for cell in picture], [(0, 1), (1, 3), (1, 2)])
        self.assertEqual(cuts.cuts_of(picture, WHOLE), [("across", (1, 3)), ("across", (1, 2))])


if __name__ == "__main__":
    unittest.main()
