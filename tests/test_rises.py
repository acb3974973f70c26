"""The greatest rise of all values, and the sides that can be left out ([11])."""

import itertools
import math
import random
import unittest

from handedtext.errors import TooMany
from handedtext.orders import greatest_rise, reach, unneeded
from oracle import greatest_rise_by_search, some_sides, unneeded_by_search
from samples import HUGE, HUGE_OTHER, MODES


class GreatestRiseTest(unittest.TestCase):

    def test_rises(self):
        for sides, answer in (
                ([(0, 10, "down")], (0, 0)), ([(7, 1, "up")], (0, 0)), ([(1, 2, "half_down")], (0, 0)),
                ([(0, HUGE, "down")], (0, 0)), ([(0, HUGE, "down")] * 4, (0, 0)),
                ([(0, 10, "up")], (9, 1)), ([(5, 10, "up")], (9, 6)), ([(9, 10, "up")], (9, 0)),
                ([(0, 10, "half_up")], (5, 5)), ([(0, 10, "half_down")], (4, 6)), ([(6, 10, "half_up")], (5, 1)),
                ([(0, 10, "half_even")], (5, 15)), ([(10, 10, "half_even")], (5, 5)),
                ([(0, 2, "half_even")], (1, 3)), ([(0, 7, "half_even")], (3, 4)), ([(-1, 3, "half_even")], (1, 1)),
                ([(0, 10, "up"), (5, 15, "up")], (29, 21)), ([(0, 10, "up"), (5, 10, "up")], None),
                ([(0, 10, "up"), (0, 10, "up")], (9, 1)), ([(0, 10, "up"), (5, 10, "down")], (9, 1)),
                ([(0, 2, "up"), (0, 3, "up"), (0, 5, "up")], (29, 1)),
                ([(0, 2, "up"), (0, 3, "up"), (1, 6, "up")], None),
                ([(0, 3, "half_up"), (1, 3, "half_up"), (2, 3, "half_up")], None)):
            self.assertEqual(greatest_rise(sides), answer, sides)
        self.assertEqual(greatest_rise(sides=[(0, 10, "up")]), (9, 1))

    def test_against_all_hand_overs(self):
        kinds = set()
        for sides in some_sides(4, 300, most_step=6):
            answer = greatest_rise_by_search(sides)
            self.assertEqual(greatest_rise(sides), answer, sides)
            kinds.add((answer is None, len(sides)))
        self.assertEqual(len(kinds), 7)

    def test_two_sides_against_all_hand_overs(self):
        source = random.Random(5)
        for modes in itertools.product(MODES, repeat=2):
            for _ in range(6):
                sides = [(source.randint(-9, 9), source.randint(1, 12), mode) for mode in modes]
                self.assertEqual(greatest_rise(sides), greatest_rise_by_search(sides), sides)

    def check_long_period(self, sides):
        """Check an answer for sides with a long period: by reach, in the neighbourhood, and for some other values."""
        rise, value = greatest_rise(sides)
        self.assertGreaterEqual(value, 0)
        self.assertEqual(reach(sides, value)[1] - value, rise, sides)
        self.assertEqual(reach(sides, value - 1)[1], value - 1, sides)
        source = random.Random(6)
        for _ in range(60):
            other = source.randrange(-10 ** 45, 10 ** 45)
            self.assertLessEqual(reach(sides, other)[1] - other, rise, sides)
            other = source.randrange(0, value + 1)
            if other < value:
                self.assertLess(reach(sides, other)[1] - other, rise, sides)

    def test_thirty_digits(self):
        for one, other in itertools.product(("up", "half_down", "half_up", "half_even"), repeat=2):
            for steps in ((HUGE, HUGE_OTHER), (HUGE_OTHER, HUGE), (HUGE, 3), (1001, HUGE), (317, 331),
                          (3 ** 60, 7 ** 35), (10 ** 15 + 1, 10 ** 30 - 1), (10 ** 6 + 1, 3 * 10 ** 6 + 3)):
                for offset in (10 ** 40, 5, -10 ** 39 + 1):
                    if "up" in (one, other):
                        # So there are values that stand on both sides.
                        offset -= offset % math.gcd(*steps)
                    self.check_long_period([(0, steps[0], one), (offset, steps[1], other)])

    def test_thirty_digits_with_even_steps(self):
        for one, other in itertools.product(("up", "half_down", "half_up"), repeat=2):
            for steps in (
                    (HUGE - 1, HUGE_OTHER), (10 ** 30, 10 ** 30 - 2), (10 ** 30, 2), (2 ** 90, 6 ** 30), (4, HUGE - 5)):
                self.check_long_period([(10 ** 40, steps[0], one), (0, steps[1], other)])

    def test_middle_periods_against_all_values(self):
        # The common period is just more than 100,000, so that all values of it can be looked at.
        source = random.Random(8)
        for _ in range(12):
            steps = source.choice([
                (317, 331), (331, 317), (101, 1009), (1500, 337), (2, 50021), (50021, 3), (600, 1001)])
            modes = [source.choice(("up", "half_down", "half_up")) for _ in range(2)]
            modes = [mode if step > 2 else "up" for mode, step in zip(modes, steps)]
            sides = [(source.randint(-999, 999), step, mode) for step, mode in zip(steps, modes)]
            self.assertGreater(steps[0] * steps[1], 100000)
            best = (0, 0)
            value = 0
            while value <= steps[0] * steps[1]:
                _, greatest = reach(sides, value)
                if greatest - value > best[0]:
                    best = (greatest - value, value)
                value = greatest + 1
            self.assertEqual(greatest_rise(sides), best, sides)

    def test_one_side_of_thirty_digits(self):
        for offset in (0, 10 ** 40, -10 ** 40, 5):
            for mode, past in (("up", 1), ("half_down", 5 * 10 ** 29 + 1), ("half_up", 5 * 10 ** 29)):
                self.assertEqual(greatest_rise([(offset, 10 ** 30, mode)]),
                                 (10 ** 30 - past, (offset + past) % 10 ** 30))
            for mode in ("half_even", "half_down", "half_up"):
                self.assertEqual(greatest_rise([(offset, HUGE, mode)]),
                                 ((HUGE - 1) // 2, (offset + (HUGE + 1) // 2) % HUGE))
        self.assertEqual(greatest_rise([(0, HUGE, "up"), (3, HUGE_OTHER, "down"), (0, 10 ** 30, "down"), (5, 1, "up")]),
                         (HUGE - 1, 1))

    def test_no_end_with_thirty_digits(self):
        self.assertIsNone(greatest_rise([(0, 10 ** 30, "up"), (1, 10 ** 29, "up")]))
        self.assertIsNone(greatest_rise([(1, 10 ** 20, "up"), (0, 10 ** 30, "up")]))
        # The half of the lesser step holds no value that stands on the other side.
        self.assertIsNone(greatest_rise([(7 * 10 ** 19, 10 ** 30, "up"), (0, 10 ** 20, "half_up")]))
        self.assertIsNotNone(greatest_rise([(3 * 10 ** 19, 10 ** 30, "up"), (0, 10 ** 20, "half_up")]))

    def test_common_values_of_thirty_digits(self):
        rise, value = greatest_rise([(7, HUGE, "up"), (9, HUGE_OTHER, "up")])
        self.assertEqual(rise, HUGE * HUGE_OTHER - 1)
        self.assertEqual(((value - 8) % HUGE, (value - 10) % HUGE_OTHER), (0, 0))
        self.assertTrue(0 <= value <= rise)
        self.assertEqual(greatest_rise([(-1, HUGE, "up"), (-1, HUGE_OTHER, "up")]), (rise, 0))
        self.assertEqual(greatest_rise([(-2, HUGE, "up"), (-2, HUGE_OTHER, "up")]), (rise, rise))

    def test_too_many(self):
        for sides in (
                [(0, 50, "up"), (0, 51, "up"), (0, 41, "up")], [(0, 100001, "up")] * 3, [(0, 50001, "half_even")] * 3,
                [(0, 100001, "up"), (0, 2, "half_up"), (0, 3, "half_even"), (0, 7, "down")],
                [(0, 50002, "half_even")], [(0, HUGE - 1, "half_even")], [(0, 2, "half_even"), (0, 50001, "up")],
                [(0, 100001, "up"), (5, 4, "half_even")], [(0, HUGE, "up"), (0, HUGE - 1, "half_even")],
                [(0, 100001, "up")] * 2, [(0, 100001, "up"), (5, 100001, "half_down")],
                [(0, HUGE, "half_even"), (1, HUGE, "half_even")], [(0, 100002, "up"), (1, 100002, "up")],
                [(0, 50001, "half_even"), (0, 50001, "up")]):
            with self.assertRaises(TooMany, msg=sides):
                greatest_rise(sides)
            if len(sides) < 4:
                with self.assertRaises(TooMany, msg=sides):
                    greatest_rise(sides[1:] + [(0, HUGE, "down")] + sides[:1])

    def test_just_not_too_many(self):
        for sides, answer in (
                ([(0, 100000, "up")] * 4, (99999, 1)), ([(0, 50000, "half_even")], (25000, 75000)),
                ([(0, 50000, "half_even")] * 2, (25000, 75000)), ([(0, 100000, "up"), (1, 100000, "up")], None),
                ([(0, 100000, "up"), (0, 50000, "half_even")], (99999, 1)),
                ([(0, 100001, "up"), (0, 100001, "down")], (100000, 1)),
                ([(0, 100001, "up"), (0, 1, "half_even"), (5, 1, "up")], (100000, 1)),
                ([(0, 100001, "up"), (0, 2, "half_down"), (5, 2, "down")], (100000, 1)),
                ([(0, 50001, "half_even")], (25000, 25001))):
            self.assertEqual(greatest_rise(sides), answer, sides)
        self.check_long_period([(0, 50003, "half_even"), (0, 3, "up")])
        self.check_long_period([(0, 100001, "half_even"), (0, 100003, "half_even")])


class UnneededTest(unittest.TestCase):

    def test_sides(self):
        for sides, answer in (
                ([(0, 10, "up")], []), ([(0, 1, "up")], []), ([(0, 10, "up"), (0, 10, "up")], [0, 1]),
                ([(0, 10, "up"), (0, 5, "up")], [1]), ([(0, 5, "up"), (0, 10, "up")], [0]),
                ([(0, 10, "up"), (5, 10, "up")], []), ([(0, 10, "up"), (0, 10, "down")], []),
                ([(0, 10, "up"), (0, 1, "down")], [1]), ([(0, 1, "up"), (0, 1, "down")], [0, 1]),
                ([(0, 1, "up")] * 4, [0, 1, 2, 3]), ([(0, 10, "up"), (0, 5, "down")], []),
                ([(0, 10, "up"), (0, 10, "down"), (0, 5, "half_up")], [2]),
                ([(0, 10, "up"), (0, 10, "down"), (1, 5, "half_up")], []),
                ([(0, 7, "half_even"), (0, 7, "half_up"), (7, 7, "half_down")], [0, 1, 2]),
                ([(0, 6, "half_even"), (6, 6, "half_even")], []),
                ([(k, 10, "down") for k in range(3)], [0, 1, 2]), ([(k, 10, "up") for k in range(4)], [0, 1, 2, 3])):
            self.assertEqual(unneeded(sides), answer, sides)
        self.assertEqual(unneeded(sides=[(0, 10, "up"), (0, 5, "up")]), [1])

    def test_against_reach(self):
        kinds = set()
        for sides in some_sides(7, 250, most_step=6):
            answer = unneeded_by_search(sides)
            self.assertEqual(unneeded(sides), answer, sides)
            kinds.add((len(sides), len(answer)))
        self.assertGreater(len(kinds), 8)

    def test_too_many(self):
        for sides in (
                [(0, 20001, "up")], [(0, 20001, "down")], [(0, 10001, "half_even")], [(0, HUGE, "half_up")],
                [(0, 3, "up"), (0, 7001, "up")], [(0, 1, "up"), (0, 20001, "down")], [(0, 10001, "half_even")] * 4,
                [(0, 2, "half_even"), (0, 5001, "down")], [(0, 10 ** 30, "down"), (0, 10 ** 29, "down")]):
            with self.assertRaises(TooMany, msg=sides):
                unneeded(sides)

    def test_just_not_too_many(self):
        for sides, answer in (
                ([(0, 20000, "up")], []), ([(0, 10000, "half_even")], []), ([(0, 9999, "half_even")], []),
                ([(0, 20000, "down")] * 4, [0, 1, 2, 3]), ([(0, 20000, "up"), (0, 10000, "half_even")], []),
                ([(0, 20000, "up"), (0, 2000, "up"), (0, 20000, "down"), (0, 200, "half_even")], [1, 3]),
                ([(0, 20000, "up"), (19999, 20000, "up")], [])):
            self.assertEqual(unneeded(sides), answer, sides)

    def test_new_lists(self):
        sides = [(0, 10, "up"), (0, 5, "up")]
        unneeded(sides).append(7)
        self.assertEqual(unneeded(sides), [1])


if __name__ == "__main__":
    unittest.main()
