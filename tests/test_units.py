"""Units: the least parts that make all offsets and steps integers ([7])."""

import copy
import fractions
import itertools
import math
import random
import unittest

from handedtext.errors import InvalidUnits, TooMany
from handedtext.sides import check_side
from handedtext.units import scaled
from samples import MODES, NO_INTEGERS, SIDE

UNIT = ((0, 1), (1, 100), "half_up")


def wrong_units():
    """Return things that are no units."""
    wrong = list(NO_INTEGERS) + [0, 1, -1, 10 ** 199, SIDE, [UNIT], list(UNIT), UNIT[:2], UNIT + (0,), (UNIT,)]
    wrong.extend([(1, 2, "up"), ((0, 1), 2, "up"), (0, (2, 1), "up"), ("up", (0, 1), (1, 100))])
    fine = (1, 2)
    for thing in list(NO_INTEGERS) + [0, 1, -1]:
        wrong.extend([(thing, fine, "up"), (fine, thing, "up")])
    for thing in NO_INTEGERS:
        for pair in ((thing, 1), (1, thing)):
            wrong.extend([(pair, fine, "up"), (fine, pair, "up")])
        if thing != "down":
            wrong.append((fine, fine, thing))
    for below in (0, -1, -100, -10 ** 199):
        wrong.extend([((0, below), fine, "up"), ((1, below), fine, "up"), (fine, (1, below), "up")])
    for above in (0, -1, -100, -10 ** 199):
        wrong.extend([(fine, (above, 1), "up"), (fine, (above, 3), "up"), (fine, (above, -3), "up")])
    for pair in ((), (1,), (1, 2, 3), [1, 2], {0: 1, 1: 2}):
        wrong.extend([(pair, fine, "up"), (fine, pair, "up")])
    for mode in ("Up", "up ", "half", "even"):
        wrong.append((fine, fine, mode))
    return wrong


class ScaledTest(unittest.TestCase):

    def test_least_parts(self):
        for units, answer in (
                ([UNIT], (100, [(0, 1, "half_up")])),
                ([((0, 1), (5, 100), "up")], (20, [(0, 1, "up")])),
                ([((0, 7), (3, 1), "down")], (1, [(0, 3, "down")])),
                ([((0, 1), (1, 1), "up")], (1, [(0, 1, "up")])),
                ([((14, 7), (6, 2), "down")], (1, [(2, 3, "down")])),
                ([((-1, 6), (1, 4), "half_even")], (12, [(-2, 3, "half_even")])),
                ([((-6, 4), (9, 6), "half_down")], (2, [(-3, 3, "half_down")])),
                ([((-100, 1), (10, 1), "up")], (1, [(-100, 10, "up")])),
                ([((1, 3), (1, 2), "up"), ((0, 1), (1, 5), "down")], (30, [(10, 15, "up"), (0, 6, "down")])),
                ([((0, 1), (1, 2), "up"), ((5, 1), (5, 1), "up")], (2, [(0, 1, "up"), (10, 10, "up")])),
                ([((1, 10 ** 20), (1, 10 ** 30), "up")], (10 ** 30, [(10 ** 10, 1, "up")]))):
            self.assertEqual(scaled(units), answer)
        self.assertEqual(scaled(units=[UNIT]), (100, [(0, 1, "half_up")]))

    def test_eight_units_in_their_order(self):
        units = [((number, 1), (number, 2), mode) for number, mode in zip(range(1, 9), MODES + MODES[:3])]
        parts, sides = scaled(units)
        self.assertEqual(parts, 2)
        self.assertEqual(sides, [(2 * a, step, mode) for (a, _), (step, _), mode in units])
        self.assertEqual(scaled([UNIT, UNIT]), (100, [(0, 1, "half_up")] * 2))

    def test_against_search(self):
        source = random.Random(3)
        for _ in range(400):
            units = [
                ((source.randint(-12, 12), source.randint(1, 6)), (source.randint(1, 12), source.randint(1, 6)),
                 source.choice(MODES))
                for _ in range(source.randint(1, 3))
            ]
            for parts in itertools.count(1):
                told = [(parts * fractions.Fraction(*a), parts * fractions.Fraction(*b), mode) for a, b, mode in units]
                if all(a.denominator == b.denominator == 1 for a, b, _ in told):
                    break
            self.assertEqual(scaled(units), (parts, told))

    def test_kinds(self):
        parts, sides = scaled([((-3, 6), (4, 6), "up")])
        self.assertIs(parts.__class__, int)
        self.assertIs(sides.__class__, list)
        for side in sides:
            self.assertIsNone(check_side(side))
            self.assertEqual([thing.__class__ for thing in side], [int, int, str])

    def test_argument_and_answers_are_not_shared(self):
        units = [((-1, 6), (1, 4), "half_even"), UNIT]
        kept = copy.deepcopy(units)
        first = scaled(units)
        self.assertEqual(units, kept)
        first[1].clear()
        self.assertEqual(scaled(units), (300, [(-50, 75, "half_even"), (0, 3, "half_up")]))

    def test_no_units(self):
        self.assertGreater(len(wrong_units()), 100)
        for thing in wrong_units():
            for units in ([thing], [UNIT, thing], [thing, UNIT], [UNIT] * 7 + [thing]):
                kept = copy.deepcopy(units)
                with self.assertRaises(InvalidUnits, msg=repr(thing)[:80]):
                    scaled(units)
                self.assertEqual(units, kept)

    def test_no_list_of_1_to_8(self):
        for thing in list(NO_INTEGERS) + [
                0, 1, UNIT, (UNIT,), {0: UNIT}, {UNIT: 0}, [], [UNIT] * 9, [UNIT] * 1000, [[UNIT]], [SIDE]]:
            with self.assertRaises(InvalidUnits):
                scaled(thing)

    def test_sides_at_their_bounds(self):
        self.assertEqual(scaled([((10 ** 40, 1), (10 ** 30, 1), "up"), ((-10 ** 40, 1), (1, 1), "up")]),
                         (1, [(10 ** 40, 10 ** 30, "up"), (-10 ** 40, 1, "up")]))
        self.assertEqual(scaled([((10 ** 40, 2), (10 ** 30, 4), "up")]), (1, [(10 ** 40 // 2, 10 ** 30 // 4, "up")]))
        parts = 10 ** 199
        self.assertEqual(scaled([((1, parts), (1, parts), "up")]), (parts, [(1, 1, "up")]))
        self.assertEqual(scaled([((parts, parts), (parts, parts), "up")]), (1, [(1, 1, "up")]))

    def test_too_many(self):
        for units in (
                [((10 ** 40 + 1, 1), (1, 1), "up")], [((-10 ** 40 - 1, 1), (1, 1), "up")],
                [((0, 1), (10 ** 30 + 1, 1), "up")], [((10 ** 40, 1), (1, 2), "up")], [((1, 3), (10 ** 30, 1), "up")],
                [UNIT, ((10 ** 39, 1), (1, 1), "up")], [((10 ** 39, 1), (1, 1), "up"), UNIT],
                [((10 ** 199, 1), (10 ** 199, 1), "up")], [((0, 1), (1, 10 ** 31), "up"), ((0, 1), (1, 1), "up")]):
            with self.assertRaises(TooMany):
                scaled(units)

    def test_no_units_go_ahead_of_too_many(self):
        big = ((10 ** 41, 1), (1, 1), "up")
        for units in ([big, None], [big, ((0, 1), (0, 1), "up")], [big] * 9):
            with self.assertRaises(InvalidUnits):
                scaled(units)

    def test_long_parts(self):
        below = [10 ** 199 - number for number in range(8)]
        self.assertGreater(math.lcm(*below), 10 ** 1000)
        with self.assertRaises(TooMany):
            scaled([((1, told), (1, told), "up") for told in below])
        self.assertEqual(scaled([((1, below[1]), (1, below[1]), "up")]), (below[1], [(1, 1, "up")]))


if __name__ == "__main__":
    unittest.main()
