"""How far values come among some sides ([9]), and the errors of what takes sides ([8])."""

import copy
import itertools
import unittest

from handedtext.errors import InvalidSides, InvalidValue, TooMany
from handedtext.orders import climb, greatest_rise, reach, unneeded
from handedtext.sides import handed, mirror
from handedtext.ways import along, before, route
from oracle import period, reach_by_search, reached, routes_by_search, some_sides
from samples import HUGE, HUGE_OTHER, MODES, NO_INTEGERS, SIDE, wrong_lists_of_sides


def first_no_side_raises(sides, value):
    """Return the least value, from a told one on, that no side raises, as the document says; there has to be one."""
    while any(handed(side, value) > value for side in sides):
        value += 1
    return value


class ErrorsOfSidesTest(unittest.TestCase):

    def test_no_sides_go_ahead_of_all_else(self):
        for function, rows in (
                (along, (([], 0), (None, 0), ([7], None), ([], True), ([0] * 1001, ""))),
                (reach, ((0,), (None,), (True,))), (climb, ((0,), (None,), (False,))),
                (before, ((0,), (None,), ("0",))), (route, ((0, 0), (None, 0), (0, None), (True, False))),
                (greatest_rise, ((),)), (unneeded, ((),))):
            for thing in wrong_lists_of_sides():
                kept = copy.deepcopy(thing)
                for row in rows:
                    with self.assertRaises(InvalidSides, msg=(function.__name__, repr(thing)[:80])):
                        function(thing, *row)
                self.assertEqual(thing, kept)

    def test_one_to_four_sides(self):
        for many in range(1, 5):
            sides = [(number, 10, "up") for number in range(many)]
            self.assertEqual(along(sides, list(range(many)), 9), [10, 11, 12, 13][:many])
            self.assertEqual(reach(sides, 0), (0, 0 if many == 1 else None))
            self.assertEqual(climb(sides, 0), ("end", []) if many == 1 else ("endless", [many - 1, many - 2]))
            self.assertEqual(before(sides, 0), (-9 if many == 1 else None, 0))
            self.assertEqual(route(sides, 0, 0), [])
            self.assertEqual(greatest_rise(sides), (9, 1) if many == 1 else None)
            self.assertEqual(unneeded(sides), list(range(many)) if many > 2 else [])


class ReachTest(unittest.TestCase):

    def test_ends(self):
        for sides, value, answer in (
                ([(0, 10, "up")], 1, (1, 10)), ([(0, 10, "up")], 10, (10, 10)), ([(0, 10, "down")], 9, (0, 9)),
                ([(0, 10, "half_up")], 5, (5, 10)), ([(0, 10, "half_up")], 4, (0, 4)),
                ([(0, 10, "half_down")], 5, (0, 5)), ([(0, 10, "half_down")], 6, (6, 10)),
                ([(0, 10, "half_even")], 5, (0, 5)), ([(0, 10, "half_even")], 15, (15, 20)),
                ([(0, 10, "half_even")], -5, (-5, 0)), ([(0, 1, "up"), (5, 1, "half_even")], 3, (3, 3)),
                ([(0, 10, "up"), (3, 10, "down")], 7, (3, 10)),
                ([(0, 10, "up"), (3, 10, "up")], 1, (1, None)), ([(0, 10, "down"), (3, 10, "down")], 1, (None, 1)),
                ([(0, 10, "up"), (3, 10, "up"), (4, 10, "down")], 1, (-6, None)),
                ([(0, 10, "up"), (0, 10, "up")], 1, (1, 10)), ([(0, 10, "up"), (0, 10, "down")], 1, (0, 10)),
                ([(0, 3, "half_up"), (1, 3, "half_up"), (2, 3, "half_up")], 0, (None, None))):
            self.assertEqual(reach(sides, value), answer, (sides, value))
        self.assertEqual(reach(value=1, sides=[(0, 10, "up")]), (1, 10))

    def test_against_all_hand_overs(self):
        kinds = set()
        for sides in some_sides(1, 1500, most_step=7):
            for value in (-3, 0, 11):
                answer = reach_by_search(sides, value)
                self.assertEqual(reach(sides, value), answer, (sides, value))
                kinds.add((answer[0] is None, answer[1] is None, min(len(sides), 3)))
        self.assertEqual(len(kinds), 1 + 3 + 4)

    def test_two_sides_against_all_hand_overs(self):
        for modes in itertools.product(MODES, repeat=2):
            for steps in ((2, 3), (3, 2), (4, 6), (6, 4), (5, 5), (6, 3), (8, 7), (1, 6), (6, 9)):
                for offset in range(-3, 6):
                    sides = [(1, steps[0], modes[0]), (offset, steps[1], modes[1])]
                    for value in (0, 1, 5, 16):
                        self.assertEqual(reach(sides, value), reach_by_search(sides, value), (sides, value))

    def test_the_greatest_is_the_first_that_no_side_raises(self):
        for sides in (
                [(0, 97, "up"), (5, 101, "up")], [(0, 97, "half_even"), (5, 100, "half_even")],
                [(0, 96, "half_up"), (5, 100, "half_even")], [(3, 100, "up"), (5, 98, "half_even")],
                [(0, 97, "up"), (5, 10, "up"), (3, 12, "half_down")],
                [(0, 97, "down"), (5, 10, "up"), (3, 12, "half_down"), (0, 1, "up")]):
            for value in range(-200, 3000, 37):
                least, greatest = reach(sides, value)
                self.assertEqual(greatest, first_no_side_raises(sides, value), (sides, value))
                turned = [mirror(side) for side in sides]
                self.assertEqual(least, -first_no_side_raises(turned, -value), (sides, value))

    def test_thirty_digits_with_one_side(self):
        step = HUGE + 1
        for mode in MODES:
            rises = mode in ("up", "half_up", "half_even")
            for offset in (10 ** 40, -10 ** 40, 7):
                side = (offset, step, mode)
                start = offset + 3 * step
                value = start + step // 2
                self.assertEqual(reach([side], value), (value, start + step) if rises else (start, value))
                self.assertEqual(reach([side], start), (start, start))
                self.assertEqual(reach([side], start + 1), (start + 1, start + step) if mode == "up" else (
                    start, start + 1))
                self.assertEqual(reach([side], start - 1), (start - step, start - 1) if mode == "down" else (
                    start - 1, start))

    def test_thirty_digits_with_two_sides_of_each_mode(self):
        for one, other in itertools.product(MODES, repeat=2):
            sides = [(10 ** 40, HUGE, one), (-10 ** 40 + 1, HUGE_OTHER, other)]
            for value in (0, 10 ** 40, -10 ** 199, 5 * 10 ** 29 + 3):
                least, greatest = reach(sides, value)
                self.assertLessEqual(least, value)
                self.assertGreaterEqual(greatest, value)
                for side in sides:
                    self.assertLessEqual(handed(side, greatest), greatest)
                    self.assertGreaterEqual(handed(side, least), least)
                if greatest - value < 500 * HUGE:
                    kind, numbers = climb(sides, value)
                    self.assertEqual((kind, ([value] + along(sides, numbers, value))[-1]), ("end", greatest))

    def test_thirty_digits_up_to_the_one_common_value(self):
        sides = [(7, HUGE, "up"), (9, HUGE_OTHER, "up")]
        least, greatest = reach(sides, 10)
        self.assertEqual((least, (greatest - 7) % HUGE, (greatest - 9) % HUGE_OTHER), (10, 0, 0))
        self.assertTrue(10 <= greatest < 10 + HUGE * HUGE_OTHER)
        self.assertEqual(reach(sides, greatest), (greatest, greatest))
        self.assertEqual(reach(sides, greatest + 1), (greatest + 1, greatest + HUGE * HUGE_OTHER))
        turned = [(-7, HUGE, "down"), (-9, HUGE_OTHER, "down")]
        self.assertEqual(reach(turned, -10), (-greatest, -10))
        self.assertEqual(reach([(7, HUGE, "up"), (9, HUGE, "up")], 10), (10, None))
        self.assertEqual(reach([(7, HUGE, "down"), (9, HUGE, "down")], 10), (None, 10))
        self.assertEqual(reach([(0, 10 ** 30, "up"), (1, 10 ** 29, "up")], 0), (0, None))
        self.assertEqual(reach([(0, 10 ** 30, "up"), (10 ** 29, 10 ** 29, "up")], 1), (1, 10 ** 30))

    def test_too_many(self):
        for sides in (
                [(0, 100001, "up")] * 3, [(0, 100001, "down")] * 3, [(0, 50001, "half_even")] * 3,
                [(0, 317, "up"), (0, 317, "half_up"), (5, 331, "up")],
                [(0, 317, "up"), (0, 317, "half_up"), (5, 331, "up"), (0, 3, "down")],
                [(0, HUGE, "up"), (0, HUGE, "up"), (1, HUGE, "half_down")],
                [(0, HUGE, "down"), (0, HUGE, "down"), (1, HUGE, "half_down"), (0, 2, "up")],
                [(0, 2, "up"), (0, 3, "half_down"), (0, 25001, "half_even")],
                [(0, 100001, "half_up"), (0, 3, "half_up"), (1, 3, "half_up")],
                [(0, 100001, "half_down"), (0, 100001, "down"), (0, 2, "half_down")]):
            for value in (0, 1, -10 ** 199):
                with self.assertRaises(TooMany, msg=sides):
                    reach(sides, value)

    def test_just_not_too_many(self):
        for sides, value, answer in (
                ([(0, 100000, "up")] * 3, 1, (1, 100000)), ([(0, 100000, "down")] * 4, -1, (-100000, -1)),
                ([(0, 50000, "half_even")] * 3, 25001, (25001, 50000)),
                ([(0, 50000, "half_even")] * 4, 25000, (0, 25000)),
                ([(0, 100001, "up")] * 2, 1, (1, 100001)),
                ([(0, 100001, "up")] * 2 + [(0, 100003, "down")] * 2, 1, (0, 100001)),
                ([(0, HUGE, "up")] * 2 + [(0, HUGE, "down")] * 2, 1, (0, HUGE)),
                ([(0, 100001, "up")] * 2 + [(5, 1, "up"), (0, 1, "half_even")], 1, (1, 100001)),
                ([(0, 100001, "up")] * 2 + [(0, 2, "half_down"), (0, HUGE, "down")], 1, (0, 100001)),
                ([(0, 100001, "down")] * 2 + [(0, 2, "half_up"), (0, 1, "half_up")], 1, (0, 2)),
                ([(0, 2, "half_even"), (0, 50000, "half_even"), (2, 2, "half_even")], 1, (0, 2)),
                ([(2, 5, "up"), (1, 32, "up"), (2, 625, "up")], 3, (3, 9377))):
            self.assertEqual(reach(sides, value), answer, (sides, value))

    def test_errors(self):
        for thing in NO_INTEGERS:
            for sides in ([SIDE], [(0, 100001, "half_up")] * 3):
                with self.assertRaises(InvalidValue):
                    reach(sides, thing)
                with self.assertRaises(InvalidValue):
                    climb(sides, thing)

    def test_arguments_stay(self):
        sides = [(0, 10, "up"), (3, 7, "half_down"), (5, 6, "half_even")]
        kept = copy.deepcopy(sides)
        first = [reach(sides, 4), climb(sides, 4), greatest_rise(sides), unneeded(sides), before(sides, 4)]
        self.assertEqual(sides, kept)
        self.assertEqual(
            [reach(sides, 4), climb(sides, 4), greatest_rise(sides), unneeded(sides), before(sides, 4)], first)


class ClimbTest(unittest.TestCase):

    def test_ways(self):
        for sides, value, answer in (
                ([(0, 10, "up")], 10, ("end", [])), ([(0, 10, "up")], 1, ("end", [0])),
                ([(0, 10, "down")], 1, ("end", [])), ([(0, 10, "up"), (5, 15, "up")], 1, ("end", [0, 1])),
                ([(0, 10, "up"), (0, 10, "half_up"), (10, 5, "up")], 6, ("end", [0])),
                ([(0, 5, "up"), (0, 10, "up"), (10, 10, "up")], 1, ("end", [1])),
                ([(0, 10, "up"), (5, 10, "up")], 1, ("endless", [0, 1])),
                ([(0, 10, "up"), (5, 10, "up")], 0, ("endless", [1, 0])),
                ([(0, 10, "up"), (5, 10, "up")], 10, ("endless", [1, 0])),
                ([(0, 10, "up"), (5, 10, "up"), (0, 30, "down")], 1, ("endless", [0, 1, 0, 1, 0, 1])),
                ([(0, 10, "up"), (5, 10, "up"), (0, 1, "half_even")], 1, ("endless", [0, 1])),
                ([(0, 10, "up"), (5, 10, "up"), (0, 10, "half_even")], 0, ("endless", [1, 0, 1, 0]))):
            self.assertEqual(climb(sides, value), answer, (sides, value))
        self.assertEqual(climb(value=1, sides=[(0, 10, "up")]), ("end", [0]))

    def test_by_its_words_and_no_fewer_hand_overs(self):
        kinds = set()
        for sides in some_sides(2, 500, most_step=7):
            for value in (-3, 0, 11):
                kind, numbers = climb(sides, value)
                here = value
                for number in numbers:
                    self.assertLess(here, value + period(sides))
                    written = [handed(side, here) for side in sides]
                    self.assertGreater(max(written), here)
                    self.assertEqual(number, written.index(max(written)))
                    here = written[number]
                self.assertEqual(kind == "endless", here >= value + period(sides))
                self.assertEqual(kind == "endless", reach_by_search(sides, value)[1] is None)
                if kind == "end":
                    self.assertEqual(here, max(reached(sides, value, 2 * period(sides))))
                routes = routes_by_search(sides, value, period(sides) + 8)
                far = [len(way) for place, way in routes.items() if place >= min(here, value + period(sides))]
                self.assertEqual(min(far), len(numbers), (sides, value))
                kinds.add((kind, len(sides)))
        self.assertEqual(len(kinds), 7)

    def test_the_common_period_is_that_of_all_the_sides(self):
        sides = [(0, 10, "up"), (5, 10, "up")]
        self.assertEqual(climb(sides + [(0, 5000, "down")], 1), ("endless", [0, 1] * 500))
        self.assertEqual(climb(sides + [(0, 2500, "half_even")], 1)[0], "endless")
        with self.assertRaises(TooMany):
            climb(sides + [(0, 5010, "down")], 1)
        with self.assertRaises(TooMany):
            climb(sides + [(0, HUGE, "down")], 1)

    def test_a_thousand_numbers_to_an_end_and_one_more(self):
        sides = [(0, 31, "up"), (0, 37, "up"), (0, 41, "up")]
        values = [1]
        while values[-1] < 31 * 37 * 41:
            values.append(max(handed(side, values[-1]) for side in sides))
        self.assertGreater(len(values), 1002)
        for many in (0, 1, 999, 1000):
            kind, numbers = climb(sides, values[len(values) - 1 - many])
            self.assertEqual((kind, len(numbers)), ("end", many))
        for many in (1001, 1002, len(values) - 1):
            with self.assertRaises(TooMany):
                climb(sides, values[len(values) - 1 - many])

    def test_a_thousand_endless_numbers_and_one_more(self):
        sides = [(0, 2, "up"), (1, 2, "up"), (1, 3, "up")]
        self.assertEqual(climb(sides, 0), ("endless", [1, 0, 2, 1, 2]))
        self.assertEqual(len(climb(sides + [(0, 6 * 249, "down")], 0)[1]), 4 * 249 + 1)
        with self.assertRaises(TooMany):
            climb(sides + [(0, 6 * 250, "down")], 0)

    def test_thirty_digits(self):
        self.assertEqual(climb([(0, 10 ** 30, "up"), (0, 10 ** 29, "half_even")], 1), ("end", [0]))
        self.assertEqual(climb([(0, 10 ** 30, "up"), (5, 10 ** 30, "up")], 10 ** 40 + 1), ("endless", [0, 1]))
        self.assertEqual(climb([(0, 10 ** 30, "up"), (5, 10 ** 30, "up")], 10 ** 40 + 6), ("endless", [1, 0]))
        with self.assertRaises(TooMany):
            climb([(0, HUGE, "up"), (1, HUGE_OTHER, "up")], 2)

    def test_new_lists(self):
        sides = [(0, 10, "up")]
        climb(sides, 1)[1].append(7)
        self.assertEqual(climb(sides, 1), ("end", [0]))


if __name__ == "__main__":
    unittest.main()
