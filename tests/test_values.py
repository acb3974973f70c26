"""Sides as values ([22]), and lists of them ([23])."""

import itertools
import random
import unittest

from handedtext.errors import InvalidSide, InvalidSides, InvalidValue, TooMany
from handedtext.orders import reach
from handedtext.sides import form, handed, mirror, stands
from handedtext.values import Side, Sides
from handedtext.ways import before, route
from oracle import some_sides
from samples import BIG_SIDES, HUGE, HUGE_OTHER, NO_INTEGERS, SIDE, SLOW, small_sides, wrong_lists_of_sides, wrong_sides

UP, DOWN = (0, 10, "up"), (3, 10, "down")

NO_VALUES = NO_INTEGERS + (UP, [UP], 3, -1, 10 ** 199, "Side", object())


class SideTest(unittest.TestCase):

    def test_data(self):
        for data in BIG_SIDES + (UP, DOWN):
            side = Side(data)
            self.assertEqual(side.data, data)
            self.assertIsInstance(side.data, tuple)
        self.assertEqual(Side(data=UP).data, UP)
        with self.assertRaises(AttributeError):
            Side(UP).data = DOWN

    def test_no_side(self):
        for thing in wrong_sides() + [[UP]]:
            with self.assertRaises(InvalidSide, msg=repr(thing)[:80]):
                Side(thing)

    def test_call(self):
        for data in BIG_SIDES:
            for value in (0, 7, -10 ** 199, 10 ** 30 + 1):
                self.assertEqual(Side(data)(value), handed(data, value))
        self.assertEqual(Side(UP)(value=7), 10)
        for thing in NO_INTEGERS:
            with self.assertRaises(InvalidValue):
                Side(UP)(thing)

    def test_index(self):
        for offset, step, mode in BIG_SIDES:
            for figure in (0, 1, -1, 10 ** 199):
                self.assertEqual(Side((offset, step, mode))[figure], offset + step * figure)
        for thing in list(NO_INTEGERS) + [(0, 1), [0]]:
            with self.assertRaises(InvalidValue):
                Side(UP)[thing]
        with self.assertRaises(InvalidValue):
            Side(UP)[0:5]

    def test_contains(self):
        side = Side((3, 10, "half_even"))
        for value in (3, 13, -7, 10 ** 199 + 3):
            self.assertIs(value in side, True)
        for value in (0, 4, 12, 10 ** 199):
            self.assertIs(value in side, False)
        for data in small_sides((1, 2, 7), (-3, 0, 5)):
            for value in range(-8, 9):
                self.assertEqual(value in Side(data), stands(data, value))
        for thing in NO_INTEGERS + (side, Sides([UP]), UP):
            self.assertIs(thing in Side((0, 1, "up")), False)

    def test_minus(self):
        for data in BIG_SIDES:
            self.assertEqual((-Side(data)).data, mirror(data))
            self.assertEqual((-(-Side(data))).data, data)
            self.assertIsInstance(-Side(data), Side)

    def test_equal(self):
        rows = small_sides((1, 2, 3, 4), (-1, 0, 1, 4, 8))
        for one, other in itertools.product(rows, rows):
            alike = all(handed(one, value) == handed(other, value) for value in range(16))
            self.assertIs(Side(one) == Side(other), alike, (one, other))
            self.assertIs(Side(one) != Side(other), not alike, (one, other))
        self.assertEqual(Side((0, HUGE, "half_up")), Side((10 * HUGE, HUGE, "half_even")))
        self.assertNotEqual(Side((0, HUGE - 1, "half_up")), Side((0, HUGE - 1, "half_even")))

    def test_equal_to_nothing_else(self):
        for thing in NO_VALUES + (Sides([UP]),):
            self.assertIs(Side(UP) == thing, False)
            self.assertIs(thing == Side(UP), False)
            self.assertIs(Side(UP) != thing, True)

    def test_or(self):
        both = Side(UP) | Side(DOWN)
        self.assertIsInstance(both, Sides)
        self.assertEqual(both.sides, [UP, DOWN])
        self.assertEqual((Side(UP) | Side(UP)).sides, [UP, UP])
        self.assertEqual((Side(UP) | Sides([DOWN, UP, DOWN])).sides, [UP, DOWN, UP, DOWN])
        self.assertEqual((Side(UP) | Side(DOWN) | Side(UP)).sides, [UP, DOWN, UP])
        with self.assertRaises(InvalidSides):
            Side(UP) | Sides([DOWN] * 4)
        for thing in NO_VALUES:
            with self.assertRaises(InvalidSides, msg=repr(thing)[:80]):
                Side(UP) | thing

    def test_nothing_changes_it(self):
        side, other = Side(UP), Sides([DOWN])
        for result in (side(7), side[3], 10 in side, -side, side == other, side | other, side | side):
            self.assertEqual((side.data, other.sides), (UP, [DOWN]))
        with self.assertRaises(TypeError):
            iter(side)


class SidesTest(unittest.TestCase):

    def test_sides(self):
        rows = [UP, DOWN, UP]
        sides = Sides(rows)
        self.assertEqual((sides.sides, len(sides)), ([UP, DOWN, UP], 3))
        self.assertEqual(Sides(sides=rows).sides, rows)
        rows.append(DOWN)
        rows[0] = DOWN
        sides.sides.append(7)
        sides.sides[1] = UP
        self.assertEqual((sides.sides, len(sides)), ([UP, DOWN, UP], 3))
        self.assertIsNot(sides.sides, sides.sides)
        self.assertEqual(sides, Sides([UP, DOWN, UP]))
        self.assertEqual(sides(7), reach([UP, DOWN, UP], 7))
        with self.assertRaises(AttributeError):
            sides.sides = [UP]
        for many in range(1, 5):
            self.assertEqual(len(Sides([UP] * many)), many)

    def test_no_sides(self):
        for thing in wrong_lists_of_sides() + [Sides([UP]), Side(UP), [Side(UP)]]:
            with self.assertRaises(InvalidSides, msg=repr(thing)[:80]):
                Sides(thing)

    def test_call_index_and_lead_to(self):
        for rows in some_sides(90, 100, most_step=9):
            sides = Sides(rows)
            for value in (0, 5, -12):
                self.assertEqual(sides(value), reach(rows, value))
                self.assertEqual(sides[value], before(rows, value))
                for start in range(value - 9, value + 10):
                    self.assertEqual(sides.lead_to(start, value), route(rows, start, value))
        sides = Sides([UP, DOWN])
        self.assertEqual((sides(value=7), sides.lead_to(value=3, start=7)), ((3, 10), [1]))
        sides.lead_to(7, 3).append(7)
        self.assertEqual(sides.lead_to(7, 3), [1])

    def test_their_errors(self):
        for thing in NO_INTEGERS:
            for sides in (Sides([UP]), Sides(SLOW), Sides([(0, HUGE, "up"), (1, HUGE_OTHER, "up"),
                                                           (0, HUGE, "half_up")])):
                with self.assertRaises(InvalidValue):
                    sides(thing)
                with self.assertRaises(InvalidValue):
                    sides[thing]
                for start, value in ((thing, 0), (0, thing), (thing, 25420)):
                    with self.assertRaises(InvalidValue):
                        sides.lead_to(start, value)
        with self.assertRaises(TooMany):
            Sides([(0, 100001, "up")] * 3)(0)
        with self.assertRaises(TooMany):
            Sides(SLOW)[25420]
        with self.assertRaises(TooMany):
            Sides(SLOW).lead_to(1, 25420)
        self.assertEqual(Sides(SLOW).lead_to(25379, 25420), route(SLOW, 25379, 25420))

    def test_contains(self):
        sides = Sides([UP, (0, 7, "half_even")])
        for data in (UP, (20, 10, "up"), (-10, 10, "up"), (0, 7, "half_up"), (7, 7, "half_down")):
            self.assertIs(Side(data) in sides, True)
        for data in (DOWN, (5, 10, "up"), (0, 20, "up"), (0, 7, "up"), (1, 7, "half_up")):
            self.assertIs(Side(data) in sides, False)
        for thing in NO_VALUES + (sides, 0, 7):
            self.assertIs(thing in sides, False)

    def test_minus(self):
        for rows in some_sides(91, 50):
            self.assertEqual((-Sides(rows)).sides, [mirror(side) for side in rows])
            self.assertIsInstance(-Sides(rows), Sides)
            self.assertEqual(-(-Sides(rows)), Sides(rows))

    def test_or(self):
        sides = Sides([UP, DOWN])
        self.assertEqual((sides | Side(UP)).sides, [UP, DOWN, UP])
        self.assertEqual((sides | Sides([DOWN, DOWN])).sides, [UP, DOWN, DOWN, DOWN])
        self.assertEqual((sides | sides).sides, [UP, DOWN, UP, DOWN])
        self.assertIsInstance(sides | sides, Sides)
        self.assertEqual((Sides([UP] * 3) | Side(UP)).sides, [UP] * 4)
        for one, other in ((sides, Sides([UP] * 3)), (Sides([UP] * 4), Side(UP)), (Sides([UP]), Sides([UP] * 4))):
            with self.assertRaises(InvalidSides):
                one | other
        for thing in NO_VALUES + ([DOWN],):
            with self.assertRaises(InvalidSides, msg=repr(thing)[:80]):
                sides | thing

    def test_without(self):
        sides = Sides([UP, DOWN, (20, 10, "up"), (0, 7, "half_up")])
        for other, rows in (
                (Side(UP), [DOWN, (0, 7, "half_up")]), (Side((50, 10, "up")), [DOWN, (0, 7, "half_up")]),
                (Sides([DOWN, (14, 7, "half_even")]), [UP, (20, 10, "up")]), (Side((1, 10, "up")), sides.sides),
                (Sides([(0, 3, "up"), UP, DOWN, UP]), [(0, 7, "half_up")])):
            self.assertEqual((sides - other).sides, rows)
            self.assertIsInstance(sides - other, Sides)
        for one, other in ((sides, sides), (Sides([UP]), Side((10, 10, "up"))), (Sides([UP, UP]), Side(UP)),
                           (Sides([UP, DOWN]), Sides([DOWN, UP, DOWN]))):
            with self.assertRaises(InvalidSides):
                one - other
        for thing in NO_VALUES + ([DOWN],):
            with self.assertRaises(InvalidSides, msg=repr(thing)[:80]):
                sides - thing

    def test_equal(self):
        for one, other, alike in (
                ([UP], [UP], True), ([UP], [(10, 10, "up")], True), ([UP, DOWN], [DOWN, UP], True),
                ([UP, DOWN], [DOWN, UP, DOWN, (30, 10, "up")], True), ([UP], [UP, UP, UP], True), ([UP], [DOWN], False),
                ([UP], [UP, DOWN], False), ([UP, DOWN], [UP], False), ([UP, DOWN], [UP, (4, 10, "down")], False),
                ([(0, 7, "half_even"), (0, 2, "half_up")], [(4, 2, "up"), (-7, 7, "half_down")], True)):
            self.assertIs(Sides(one) == Sides(other), alike)
            self.assertIs(Sides(other) == Sides(one), alike)
            self.assertIs(Sides(one) != Sides(other), not alike)
        source = random.Random(92)
        seen = set()
        for _ in range(2000):
            one, other = [[(source.choice((0, 2)), 2, source.choice(("up", "half_up", "down"))) for _ in range(
                source.randint(1, 4))] for _ in range(2)]
            alike = {form(side) for side in one} == {form(side) for side in other}
            self.assertIs(Sides(one) == Sides(other), alike)
            seen.add(alike)
        self.assertEqual(seen, {True, False})

    def test_equal_to_nothing_else(self):
        for thing in NO_VALUES + (Side(UP),):
            self.assertIs(Sides([UP]) == thing, False)
            self.assertIs(thing == Sides([UP]), False)
            self.assertIs(Sides([UP]) != thing, True)

    def test_nothing_changes_them(self):
        sides, other = Sides([UP, DOWN]), Sides([DOWN])
        for result in (sides(7), sides[3], Side(UP) in sides, -sides, sides == other, sides | other, sides - other,
                       sides.lead_to(7, 3), len(sides), sides - Side(UP), sides | Side(UP)):
            self.assertEqual((sides.sides, other.sides), ([UP, DOWN], [DOWN]))
        with self.assertRaises(TypeError):
            iter(sides)
        self.assertEqual(SIDE, UP)


if __name__ == "__main__":
    unittest.main()
