import random
import unittest
from fractions import Fraction
from itertools import product

from brushedsigns.cuts import count_puttings
from brushedsigns.errors import BadCount, BadGrid, BadHand
from brushedsigns.grids import grid_orders, grid_picture, grid_puttings, grid_ways
from brushedsigns.orders import count_orders, orders_of
from brushedsigns.pictures import is_picture
from tests import book_oracles, oracles
from tests.drawn import LEFT_UPPER, ONE, PICTURE_OF_X, cell, columns, drawn
from tests.oracles import HANDS, told
from tests.test_orders import NO_HANDS
from tests.test_stocks import NO_NAMES
from tests.things import EqualToAll, STOCK, Stubborn, X, objects, with_lists

GRID_OF_X = (("a", "c"), ("b", "d"))
NO_GRIDS = [thing for thing in objects() if repr(thing) != "(('f', 'g', 'h'),)"] + with_lists(GRID_OF_X) + [
    ("a", "b"), ((),), ((), ()), (("a", "b"), ("c",)), (("a",), ("c", "d")), (("a",), ()), ((), ("a",)), (("a",),) * 4,
    (("a",) * 5,), (("a",) * 5,) * 2, (("a", "b"), ["c", "d"]), [("a",)], (("a", "b"), None), (("a", "b"), "cd"), ("ab", "cd"),
    ((("a",),),), (EqualToAll(),), (("a",), EqualToAll()), (("a",), Stubborn()), ((EqualToAll(),),), ((Stubborn(),),), STOCK, X,
    PICTURE_OF_X] + [((name,),) for name in NO_NAMES] + [(("a", "b"), ("c", name)) for name in NO_NAMES]
NO_COUNTS = [thing for thing in objects() if repr(thing) != "1"] + [
    0, 41, -1, True, False, 10 ** 29, -10 ** 29, "1", (1,), [1], 1j, EqualToAll(), Stubborn()]
# The sizes of grids that are pictures.
SIZES = [(rows, columns) for rows in range(1, 13) for columns in range(1, 13) if rows * columns <= 12]


def grid_of(rows, many, names="abcdefghijkl"):
    """A grid with these names, row by row from above."""
    return tuple(tuple(names[at * many:(at + 1) * many]) for at in range(rows))


def equal_boxes(rows, many):
    return columns(*[range(1, rows)] * many, parts=rows)


class GridPicture(unittest.TestCase):
    def test_row_by_row_from_above(self):
        self.assertEqual(grid_picture(GRID_OF_X), PICTURE_OF_X)
        self.assertEqual(grid_picture((("a",),)), ONE)
        self.assertEqual(grid_picture((("a", "b", "c"),)), columns([], [], []))
        self.assertEqual(grid_picture((("a",), ("b",), ("c",))), columns([2, 4]))

    def test_the_greatest(self):
        picture = grid_picture(grid_of(3, 4))
        names = [entry[4][1] for entry in picture]
        self.assertEqual("".join(names), "aeibfjcgkdhl")
        self.assertEqual([entry[:4] for entry in picture], [entry[:4] for entry in equal_boxes(3, 4)])

    def test_each_size(self):
        for rows in range(1, 4):
            for many in range(1, 5):
                grid = grid_of(rows, many)
                wanted = drawn(*[
                    tuple(told(Fraction(*side)) for side in (
                        (left, many), (left + 1, many), (upper, rows), (upper + 1, rows))) + (("part", name),)
                    for upper, row in enumerate(grid) for left, name in enumerate(row)])
                self.assertEqual(grid_picture(grid), wanted)
                self.assertTrue(is_picture(wanted))

    def test_any_names(self):
        self.assertEqual(grid_picture((("zz9", "zz9"),)), drawn(
            cell("0 1/2 0 1", ("part", "zz9")), cell("1/2 1 0 1", ("part", "zz9"))))
        self.assertEqual(grid_picture((("part",), ("within",)))[1][4], ("part", "within"))

    def test_bad_grid(self):
        for thing in NO_GRIDS:
            with self.assertRaises(BadGrid, msg=repr(thing)):
                grid_picture(thing)
            for hand in (LEFT_UPPER, None):
                with self.assertRaises(BadGrid):
                    grid_ways(thing, hand)


class Counts(unittest.TestCase):
    def test_lines(self):
        catalan = 1
        for many in range(1, 41):
            self.assertEqual(grid_puttings(1, many), catalan)
            self.assertEqual(grid_puttings(many, 1), catalan)
            self.assertEqual(grid_orders(1, many), 1)
            self.assertEqual(grid_orders(many, 1), 1)
            catalan = catalan * 2 * (2 * many - 1) // (many + 1)

    def test_grids_that_are_pictures(self):
        for rows, many in SIZES:
            picture = equal_boxes(rows, many)
            self.assertEqual(grid_puttings(rows, many), count_puttings(picture))
            self.assertEqual(grid_orders(rows, many), count_orders(picture))
        self.assertEqual([grid_puttings(2, 2), grid_puttings(2, 3), grid_orders(2, 2), grid_orders(3, 4)], [2, 8, 2, 48])

    def test_by_counting_once_more(self):
        known = {}

        def puttings(rows, many):
            if (rows, many) not in known:
                known[rows, many] = int(rows == many == 1)
                known[rows, many] += sum(puttings(rows, at) * puttings(rows, many - at) for at in range(1, many))
                known[rows, many] += sum(puttings(at, many) * puttings(rows - at, many) for at in range(1, rows))
            return known[rows, many]

        for rows, many in [(3, 5), (7, 7), (13, 4), (9, 21)]:
            self.assertEqual(grid_puttings(rows, many), puttings(rows, many))

    def test_orders_by_listing_them(self):
        def orders(cells):
            """All unlike orders of a grid, each cell (row, column)."""
            rows, many = sorted({row for row, _ in cells}), sorted({column for _, column in cells})
            if len(cells) == 1:
                return {cells}
            found = set()
            for at, places in ((0, rows), (1, many)):
                for place in places[1:]:
                    one = tuple(entry for entry in cells if entry[at] < place)
                    other = tuple(entry for entry in cells if entry[at] >= place)
                    found |= {first + second for first, second in product(orders(one), orders(other))}
            return found

        for rows, many in [(3, 5), (4, 4), (2, 8)]:
            cells = tuple(product(range(rows), range(many)))
            self.assertEqual(grid_orders(rows, many), len(orders(cells)))

    def test_turned_they_are_as_many(self):
        for rows, many in [(2, 7), (5, 11), (40, 3), (17, 40)]:
            self.assertEqual(grid_puttings(rows, many), grid_puttings(many, rows))
            self.assertEqual(grid_orders(rows, many), grid_orders(many, rows))

    def test_forty_each_way(self):
        puttings, orders = grid_puttings(40, 40), grid_orders(40, 40)
        self.assertIs(type(puttings), int)
        self.assertIs(type(orders), int)
        self.assertGreater(puttings, grid_puttings(39, 40) * grid_puttings(1, 40))
        self.assertGreater(puttings, orders)
        self.assertGreater(orders, grid_orders(20, 40) ** 2)

    def test_bad_count(self):
        for thing in NO_COUNTS:
            for function in (grid_puttings, grid_orders):
                for arguments in [(thing, 1), (1, thing), (thing, thing), (40, thing), (thing, 40)]:
                    with self.assertRaises(BadCount, msg=repr(thing)):
                        function(*arguments)


class GridWays(unittest.TestCase):
    def test_the_square(self):
        self.assertEqual(grid_ways(GRID_OF_X, LEFT_UPPER), [("a", "b", "c", "d"), ("a", "c", "b", "d")])
        self.assertEqual(grid_ways(GRID_OF_X, ("right", "lower")), [("d", "b", "c", "a"), ("d", "c", "b", "a")])
        self.assertEqual(grid_ways((("a",),), LEFT_UPPER), [("a",)])

    def test_each_once(self):
        self.assertEqual(grid_ways((("a", "b"), ("b", "a")), LEFT_UPPER), [("a", "b", "b", "a")])
        self.assertEqual(grid_ways((("a",) * 4,) * 3, LEFT_UPPER), [("a",) * 12])
        self.assertEqual(grid_ways((("b", "a"), ("a", "a")), ("right", "upper")), [("a", "a", "b", "a"), ("a", "b", "a", "a")])

    def test_ascending_by_names(self):
        ways = grid_ways((("b", "c"), ("a", "d")), LEFT_UPPER)
        self.assertEqual(ways, [("b", "a", "c", "d"), ("b", "c", "a", "d")])
        ways = grid_ways((("b", "a"), ("c", "d")), LEFT_UPPER)
        self.assertEqual(ways, [("b", "a", "c", "d"), ("b", "c", "a", "d")])
        # By the orders themselves the second would come first.
        self.assertEqual([tuple("bcad"[index] for (index,) in order) for order in orders_of(PICTURE_OF_X, LEFT_UPPER)], ways[::-1])

    def test_by_chance(self):
        chance = random.Random(97)
        for _ in range(40):
            rows, many = chance.randint(1, 3), chance.randint(1, 4)
            if rows * many > 9:
                many = 3
            grid = grid_of(rows, many, "".join(chance.choice("abc") for _ in range(12)))
            picture = grid_picture(grid)
            for hand in HANDS:
                ways = {tuple(picture[path[0]][4][1] for path in order)
                        for order in book_oracles.all_orders(picture, hand)}
                self.assertEqual(grid_ways(grid, hand), sorted(ways))

    def test_unlike_names_tell_all_orders(self):
        for hand in HANDS:
            self.assertEqual(len(grid_ways(grid_of(3, 4), hand)), grid_orders(3, 4))
        self.assertEqual(oracles.paths(grid_picture(grid_of(3, 4))), [(index,) for index in range(12)])

    def test_bad_hand(self):
        for hand in NO_HANDS:
            with self.assertRaises(BadHand):
                grid_ways(GRID_OF_X, hand)


if __name__ == "__main__":
    unittest.main()
