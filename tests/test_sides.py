"""Sides: what they write ([6]), and their spans, thresholds, mirrors and forms ([7])."""

import copy
import itertools
import unittest

from handedtext.errors import InvalidSide, InvalidValue
from handedtext.sides import back, check_side, figure_of, form, handed, mirror, span, stands
from samples import BIG_SIDES, MODES, NO_INTEGERS, SIDE, small_sides, wrong_sides

SMALL = small_sides(range(1, 9), (-17, -8, -3, -1, 0, 1, 2, 5, 8, 30))
VALUES = range(-45, 46)


def figure_by_search(side, value):
    """Return the figure to which a value comes, found among all figures that are near."""
    offset, step, mode = side
    low = (value - offset) // step - 3
    worth = {figure: offset + step * figure for figure in range(low, low + 7)}
    if mode == "down":
        return max(figure for figure in worth if worth[figure] <= value)
    if mode == "up":
        return min(figure for figure in worth if worth[figure] >= value)
    least = min(abs(value - told) for told in worth.values())
    nearest = [figure for figure in worth if abs(value - worth[figure]) == least]
    if len(nearest) == 1:
        return nearest[0]
    if mode == "half_even":
        return nearest[0] if nearest[0] % 2 == 0 else nearest[1]
    return min(nearest) if mode == "half_down" else max(nearest)


def writes(side, values):
    """Return what a side writes for some values."""
    return [handed(side, value) for value in values]


class CheckSideTest(unittest.TestCase):

    def test_sides(self):
        for side in SMALL + list(BIG_SIDES):
            self.assertIsNone(check_side(side))
        self.assertIsNone(check_side(side=SIDE))

    def test_no_sides(self):
        for thing in wrong_sides():
            kept = copy.deepcopy(thing)
            with self.assertRaises(InvalidSide, msg=repr(thing)[:80]):
                check_side(thing)
            self.assertEqual(thing, kept)

    def test_bounds(self):
        for mode in MODES:
            for offset, step in ((10 ** 40, 1), (-10 ** 40, 10 ** 30)):
                self.assertIsNone(check_side((offset, step, mode)))
            for offset, step in (
                    (10 ** 40 + 1, 1), (-10 ** 40 - 1, 1), (0, 0), (0, -1), (0, 10 ** 30 + 1), (True, 1), (0, True)):
                with self.assertRaises(InvalidSide):
                    check_side((offset, step, mode))


class ErrorsOfSidesTest(unittest.TestCase):

    def test_no_side_goes_ahead_of_no_value(self):
        for function in (figure_of, handed, stands, span, back):
            for thing in wrong_sides():
                for value in (0, None, True, "1"):
                    with self.assertRaises(InvalidSide):
                        function(thing, value)

    def test_mirror_and_form_take_a_side(self):
        for function in (mirror, form):
            for thing in wrong_sides():
                with self.assertRaises(InvalidSide):
                    function(thing)

    def test_no_value(self):
        for function in (figure_of, handed, stands, span, back):
            for thing in NO_INTEGERS:
                kept = copy.deepcopy(thing)
                for mode in MODES:
                    with self.assertRaises(InvalidValue):
                        function((0, 10, mode), thing)
                self.assertEqual(thing, kept)


class HandedTest(unittest.TestCase):

    def test_modes(self):
        values = (-25, -20, -16, -15, -14, -5, -1, 0, 1, 4, 5, 6, 9, 10, 11, 15, 25, 35)
        for mode, figures in (
                ("down", (-3, -2, -2, -2, -2, -1, -1, 0, 0, 0, 0, 0, 0, 1, 1, 1, 2, 3)),
                ("up", (-2, -2, -1, -1, -1, 0, 0, 0, 1, 1, 1, 1, 1, 1, 2, 2, 3, 4)),
                ("half_down", (-3, -2, -2, -2, -1, -1, 0, 0, 0, 0, 0, 1, 1, 1, 1, 1, 2, 3)),
                ("half_up", (-2, -2, -2, -1, -1, 0, 0, 0, 0, 0, 1, 1, 1, 1, 1, 2, 3, 4)),
                ("half_even", (-2, -2, -2, -2, -1, 0, 0, 0, 0, 0, 0, 1, 1, 1, 1, 2, 2, 4))):
            side = (0, 10, mode)
            self.assertEqual(tuple(figure_of(side, value) for value in values), figures, mode)
            self.assertEqual(tuple(handed(side, value) for value in values), tuple(10 * k for k in figures), mode)

    def test_the_even_one_is_told_by_the_figure_not_by_the_value(self):
        self.assertEqual([figure_of((10, 10, "half_even"), value) for value in (5, 15, 25)], [0, 0, 2])
        self.assertEqual([handed((10, 10, "half_even"), value) for value in (5, 15, 25)], [10, 10, 30])

    def test_odd_steps_have_no_middle(self):
        for mode in ("half_down", "half_up", "half_even"):
            self.assertEqual([figure_of((0, 5, mode), value) for value in range(-4, 9)],
                             [-1, -1, 0, 0, 0, 0, 0, 1, 1, 1, 1, 1, 2])

    def test_against_search(self):
        for side in SMALL:
            for value in VALUES:
                figure = figure_by_search(side, value)
                worth = side[0] + side[1] * figure
                self.assertEqual(figure_of(side, value), figure, (side, value))
                self.assertEqual(handed(side, value), worth, (side, value))
                self.assertIs(stands(side, value), any(side[0] + side[1] * k == value for k in range(-80, 81)))

    def test_big_ones(self):
        for side in BIG_SIDES:
            offset, step, _ = side
            for figure in (-10 ** 150, -3, 0, 1, 2, 10 ** 150 + 1):
                for rest in (0, 1, -1, step // 2, step // 2 + 1, -step // 2):
                    value = offset + step * figure + rest
                    self.assertEqual(figure_of(side, value), figure_by_search(side, value))
                    self.assertEqual(handed(side, value), offset + step * figure_by_search(side, value))
                    self.assertIs(stands(side, value), handed(side, value) == value)

    def test_by_name(self):
        self.assertEqual(figure_of(value=11, side=SIDE), 2)
        self.assertEqual(handed(value=11, side=SIDE), 20)
        self.assertIs(stands(value=11, side=SIDE), False)
        self.assertIs(stands(value=10, side=SIDE), True)


class SpanTest(unittest.TestCase):

    def test_ends(self):
        for mode, even, odd in (
                ("down", (20, 29), (30, 39)), ("up", (11, 20), (21, 30)), ("half_down", (16, 25), (26, 35)),
                ("half_up", (15, 24), (25, 34)), ("half_even", (15, 25), (26, 34))):
            self.assertEqual(span((0, 10, mode), 2), even)
            self.assertEqual(span((0, 10, mode), 3), odd)
        self.assertEqual(span(figure=-2, side=(0, 10, "half_even")), (-25, -15))

    def test_just_the_values_of_a_span_come_to_its_figure(self):
        for side in SMALL + list(BIG_SIDES):
            for figure in (-10 ** 100, -4, -3, -1, 0, 1, 2, 3, 10 ** 100 + 1):
                least, greatest = span(side, figure)
                self.assertEqual(figure_of(side, least), figure, (side, figure))
                self.assertEqual(figure_of(side, greatest), figure, (side, figure))
                self.assertLess(figure_of(side, least - 1), figure, (side, figure))
                self.assertGreater(figure_of(side, greatest + 1), figure, (side, figure))
                self.assertEqual(span(side, figure + 1)[0], greatest + 1, (side, figure))


class BackTest(unittest.TestCase):

    def test_thresholds(self):
        for mode, thresholds in (
                ("down", (20, 20, 30)), ("up", (11, 11, 21)), ("half_down", (16, 16, 26)), ("half_up", (15, 15, 25)),
                ("half_even", (15, 15, 26))):
            self.assertEqual(tuple(back((0, 10, mode), value) for value in (11, 20, 21)), thresholds, mode)
        self.assertEqual(back(value=-9, side=(0, 10, "half_even")), -5)

    def test_it_is_the_least_one(self):
        for side in SMALL + list(BIG_SIDES):
            for value in itertools.chain(VALUES, (10 ** 199, -10 ** 199, 10 ** 40 + 1)):
                threshold = back(side, value)
                self.assertGreaterEqual(handed(side, threshold), value, (side, value))
                self.assertLess(handed(side, threshold - 1), value, (side, value))


class MirrorTest(unittest.TestCase):

    def test_modes(self):
        for mode, other in (
                ("down", "up"), ("up", "down"), ("half_down", "half_up"), ("half_up", "half_down"),
                ("half_even", "half_even")):
            self.assertEqual(mirror((7, 10, mode)), (-7, 10, other))
        self.assertEqual(mirror(side=(10 ** 40, 10 ** 30, "up")), (-10 ** 40, 10 ** 30, "down"))

    def test_it_does_to_minus_x_what_the_side_does_to_x(self):
        for side in SMALL + list(BIG_SIDES):
            for value in VALUES:
                self.assertEqual(handed(mirror(side), -value), -handed(side, value), (side, value))

    def test_the_mirror_of_a_mirror_is_the_side(self):
        for side in SMALL + list(BIG_SIDES):
            self.assertIsNone(check_side(mirror(side)))
            self.assertEqual(mirror(mirror(side)), side)


class FormTest(unittest.TestCase):

    def test_forms(self):
        for side, answer in (
                ((3, 1, "half_even"), (0, 1, "down")), ((-1, 1, "up"), (0, 1, "down")),
                ((5, 1, "down"), (0, 1, "down")), ((3, 2, "half_down"), (1, 2, "down")),
                ((3, 2, "half_up"), (1, 2, "up")), ((-1, 2, "down"), (1, 2, "down")),
                ((3, 2, "half_even"), (3, 2, "half_even")), ((5, 2, "half_even"), (1, 2, "half_even")),
                ((-1, 3, "half_even"), (2, 3, "half_down")), ((4, 3, "half_up"), (1, 3, "half_down")),
                ((4, 3, "half_down"), (1, 3, "half_down")), ((-4, 3, "up"), (2, 3, "up")),
                ((14, 7, "down"), (0, 7, "down")),
                ((13, 10, "half_down"), (3, 10, "half_down")), ((-3, 10, "half_up"), (7, 10, "half_up")),
                ((-3, 10, "half_even"), (17, 10, "half_even")), ((7, 10, "half_even"), (7, 10, "half_even")),
                ((20, 10, "half_even"), (0, 10, "half_even")), ((10, 10, "half_even"), (10, 10, "half_even"))):
            self.assertEqual(form(side), answer, side)
        self.assertEqual(form(side=(0, 1, "up")), (0, 1, "down"))

    def test_two_sides_write_alike_just_if_their_forms_are_equal(self):
        sides = small_sides(range(1, 8), range(-4, 17, 3))
        # No two of these sides have a common period of more than 84 values.
        rows = {side: tuple(writes(side, range(84))) for side in sides}
        for one, other in itertools.product(sides, repeat=2):
            self.assertEqual(form(one) == form(other), rows[one] == rows[other], (one, other))

    def test_it_writes_alike_with_the_first_mode_that_does(self):
        for side in SMALL:
            offset, step, mode = form(side)
            written = writes(side, VALUES)
            self.assertEqual(writes((offset, step, mode), VALUES), written, side)
            alike = [
                (least, step, kind)
                for kind in MODES
                for least in range(2 * step if kind == "half_even" else step)
                if writes((least, step, kind), VALUES) == written
            ]
            self.assertEqual(alike[0], (offset, step, mode), side)
            self.assertEqual(form(form(side)), form(side))

    def test_big_ones(self):
        for side in BIG_SIDES:
            offset, step, mode = form(side)
            self.assertLessEqual(0, offset)
            self.assertLess(offset, 2 * step if mode == "half_even" else step)
            for rest in (0, 1, -1, step // 2, -step // 2, 3 * step // 2, 10 ** 60):
                value = side[0] + rest
                self.assertEqual(handed((offset, step, mode), value), handed(side, value), (side, value))


if __name__ == "__main__":
    unittest.main()
