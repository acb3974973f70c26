"""How far by so many hand-overs, and by how few to the end ([15]); the digits that a further side needs ([17])."""

import copy
import itertools
import random
import unittest

from handedtext.errors import InvalidNumber, InvalidSide, InvalidSides, InvalidValue, TooMany
from handedtext.limits import efforts, fewest_places, within
from handedtext.orders import climb, reach, unneeded
from handedtext.sides import handed
from oracle import efforts_by_search, fewest_places_by_search, period, some_sides, within_by_search
from samples import HUGE, HUGE_OTHER, MODES, NO_INTEGERS, SIDE, SLOW, mirrored, wrong_lists_of_sides, wrong_sides

SIDES = [(0, 10, "up"), (3, 10, "down")]


def row_up(sides, value, many):
    """Return the row of the greatest values to which a value can come by at most 0, 1, .. so many hand-overs."""
    row = [value]
    while len(row) <= many:
        row.append(max([row[-1]] + [handed(side, row[-1]) for side in sides]))
        if row[-1] == row[-2]:
            row.extend([row[-1]] * (many + 1 - len(row)))
    return row


def too_many_up(sides, value):
    """Return whether no remainder comes again in the row up, as the document says."""
    many = period(sides)
    return len({here % many for here in row_up(sides, value, 10000)}) == 10001


class WithinTest(unittest.TestCase):

    def test_ends(self):
        for sides, value, many, answer in (
                (SIDES, 7, 0, (7, 7)), (SIDES, 7, 1, (3, 10)), (SIDES, 7, 2, (3, 10)), (SIDES, 1, 1, (-7, 10)),
                (SIDES, 1, 10 ** 40, (-7, 10)), (SIDES, 5, 10 ** 40, (3, 10)),
                ([(0, 10, "up"), (5, 15, "up")], 1, 1, (1, 10)), ([(0, 10, "up"), (5, 15, "up")], 1, 2, (1, 20)),
                ([(0, 10, "up"), (5, 15, "up")], 1, 3, (1, 20)), ([(0, 10, "up"), (5, 10, "up")], 1, 4, (1, 25)),
                ([(0, 10, "up"), (5, 10, "up")], 1, 10 ** 40, (1, 5 + 5 * 10 ** 40)),
                ([(0, 10, "down"), (5, 10, "down")], 1, 10 ** 40, (-5 * 10 ** 40, 1)),
                ([(0, 1, "up")], 1, 10 ** 40, (1, 1))):
            self.assertEqual(within(sides, value, many), answer, (sides, value, many))
        self.assertEqual(within(many=1, value=7, sides=SIDES), (3, 10))

    def test_against_all_hand_overs(self):
        for sides in some_sides(40, 400, most_step=8):
            for many in (0, 1, 2, 3, 5, 8, 30):
                self.assertEqual(within(sides, 5, many), within_by_search(sides, 5, many), (sides, many))

    def test_great_numbers_against_the_row(self):
        for sides in some_sides(41, 40, most_step=8):
            for value in (0, 13):
                up = row_up(sides, value, 12000)
                down = row_up(mirrored(sides), -value, 12000)
                for many in (9999, 10000, 10001, 10007, 12000):
                    self.assertEqual(within(sides, value, many), (-down[many], up[many]), (sides, value, many))

    def test_from_some_number_to_a_greater_one(self):
        # What comes behind a number of hand-overs goes on from there.
        for sides in some_sides(42, 60, most_step=8):
            for many in (9000, 10 ** 4, 10 ** 20 + 3, 10 ** 40 - 7):
                least, greatest = within(sides, 0, many)
                self.assertEqual(within(sides, 0, many + 7)[1], within(sides, greatest, 7)[1])
                self.assertEqual(within(sides, 0, many + 7)[0], within(sides, least, 7)[0])

    def test_as_reach_tells(self):
        for sides in some_sides(43, 200, most_step=8):
            least, greatest = within(sides, 0, 10 ** 40)
            told = reach(sides, 0)
            self.assertEqual(told[0] is None, least < -10 ** 39)
            self.assertEqual(told[1] is None, greatest > 10 ** 39)
            self.assertIn(told[0], (None, least))
            self.assertIn(told[1], (None, greatest))

    def test_too_many_only_beyond_ten_thousand(self):
        sides = [(0, 37, "up"), (0, 41, "up"), (0, 43, "up"), (0, 47, "up")]
        self.assertTrue(too_many_up(sides, 1))
        row = row_up(sides, 1, 10000)
        self.assertEqual(len(set(row)), 10001)
        for told, value, sign in ((sides, 1, 1), (mirrored(sides), -1, -1)):
            for many in (0, 1, 100, 9999, 10000):
                ends = within(told, value, many)
                self.assertEqual(ends, (1, row[many]) if sign > 0 else (-row[many], -1))
            for many in (10001, 10002, 10 ** 20, 10 ** 40):
                with self.assertRaises(TooMany):
                    within(told, value, many)

    def test_remainders_that_come_again_just_in_time(self):
        # Each hand-over leads one up, and the third side lowers only: a remainder comes again behind its step.
        self.assertEqual(within([(0, 2, "up"), (1, 2, "up")], 0, 10 ** 40), (0, 10 ** 40))
        for step, answered in ((9998, True), (10000, True), (10002, False), (20000, False)):
            sides = [(0, 2, "up"), (1, 2, "up"), (0, step, "down")]
            self.assertEqual(too_many_up(sides, 7), not answered)
            for many in (9999, 10000, 10001, 10 ** 20, 10 ** 40):
                if answered or many <= 10000:
                    self.assertEqual(within(sides, 7, many), (0, 7 + many))
                    self.assertEqual(within(mirrored(sides), -7, many), (-7 - many, 0))
                else:
                    for told, value in ((sides, 7), (mirrored(sides), -7)):
                        with self.assertRaises(TooMany):
                            within(told, value, many)
        # A leap of half a period leaves just so many remainders out.
        sides = [(0, 2, "up"), (1, 2, "up"), (0, 6000, "half_even")]
        row = row_up(sides, 3, 15000)
        self.assertEqual(within(sides, 3, 15000)[1], row[15000])

    def test_thirty_digits(self):
        sides = [(10 ** 40, HUGE, "up"), (7, HUGE_OTHER, "up")]
        self.assertEqual(within(sides, 0, 1)[1], max(handed(side, 0) for side in sides))
        row = row_up(sides, 0, 10000)
        self.assertEqual(within(sides, 0, 10000), (0, row[10000]))
        with self.assertRaises(TooMany):
            within(sides, 0, 10001)
        alike = [(0, 10 ** 30, "up"), (5, 10 ** 30, "up")]
        self.assertEqual(within(alike, 1, 10 ** 40), (1, 5 * 10 ** 69 + 5))
        self.assertEqual(within(alike, 1, 10 ** 40 - 1), (1, 5 * 10 ** 69))
        self.assertEqual(within(mirrored(alike), -1, 10 ** 40), (-5 * 10 ** 69 - 5, -1))
        self.assertEqual(within([(0, HUGE, "up"), (1, HUGE_OTHER, "down")], 10 ** 199, 10 ** 40)[0] <= 10 ** 199, True)

    def test_errors(self):
        for thing in list(NO_INTEGERS) + [-1, -10 ** 199, 10 ** 40 + 1, 10 ** 41, 10 ** 199]:
            for sides in (SIDES, SLOW):
                with self.assertRaises(InvalidNumber, msg=repr(thing)[:80]):
                    within(sides, 7, thing)
        for thing in NO_INTEGERS:
            for many in (0, 1, -1, None, True, 10 ** 40, 10 ** 40 + 1):
                with self.assertRaises(InvalidValue):
                    within(SIDES, thing, many)
        for thing in wrong_lists_of_sides():
            for value, many in ((0, 1), (None, 1), (0, -1), (True, True)):
                with self.assertRaises(InvalidSides, msg=repr(thing)[:80]):
                    within(thing, value, many)
        with self.assertRaises(InvalidNumber):
            within([(0, HUGE, "up"), (7, HUGE_OTHER, "up")], 0, 10 ** 40 + 1)


class EffortsTest(unittest.TestCase):

    def test_numbers(self):
        for sides, value, answer in (
                (SIDES, 7, (1, 1)), (SIDES, 3, (0, 1)), (SIDES, 10, (1, 0)), (SIDES, 5, (1, 1)),
                ([(0, 10, "up")], 10, (0, 0)), ([(0, 10, "up")], 1, (0, 1)), ([(0, 10, "half_up")], 4, (1, 0)),
                ([(0, 10, "up"), (5, 15, "up")], 1, (0, 2)), ([(0, 10, "up"), (0, 5, "up")], 1, (0, 1)),
                ([(0, 10, "up"), (5, 10, "up")], 1, (0, None)), ([(0, 10, "down"), (5, 10, "down")], 1, (None, 0)),
                ([(0, 3, "half_up"), (1, 3, "half_up"), (2, 3, "half_up")], 0, (None, None)),
                ([(0, 10, "up"), (3, 10, "up"), (4, 10, "down")], 1, (1, None)),
                ([(0, 1, "up"), (5, 1, "half_even")], 3, (0, 0)),
                (SLOW, 1, (0, row_up(SLOW, 1, 3000).index(31 * 37 * 41)))):
            self.assertEqual(efforts(sides, value), answer, (sides, value))
        self.assertEqual(efforts(value=7, sides=SIDES), (1, 1))

    def test_against_all_hand_overs(self):
        kinds = set()
        for sides in some_sides(45, 500, most_step=8) + some_sides(46, 500, most_sides=2, most_step=14):
            for value in (0, 5):
                answer = efforts_by_search(sides, value)
                self.assertEqual(efforts(sides, value), answer, (sides, value))
                kinds.update((len(sides), None if many is None else min(many, 6)) for many in answer)
        self.assertTrue({(2, many) for many in (None, 0, 1, 2, 3, 4, 5, 6)} <= kinds)
        self.assertTrue({(many, None) for many in (2, 3, 4)} <= kinds)

    def test_two_sides_against_all_hand_overs(self):
        source = random.Random(47)
        for modes in itertools.product(MODES, repeat=2):
            for steps in ((2, 3), (3, 2), (4, 6), (6, 4), (5, 5), (6, 3), (8, 7), (1, 6), (12, 11), (10, 12)):
                sides = [(source.randint(-20, 20), step, mode) for step, mode in zip(steps, modes)]
                for value in (0, source.randint(-30, 30)):
                    self.assertEqual(efforts(sides, value), efforts_by_search(sides, value), (sides, value))

    def test_as_climb_tells(self):
        source = random.Random(48)
        lengths = set()
        for _ in range(400):
            sides = [(source.randint(-99, 99), source.randint(50, 99), source.choice(MODES)) for _ in range(2)]
            value = source.randint(-9999, 9999)
            down, up = efforts(sides, value)
            for told, here, many in ((sides, value, up), (mirrored(sides), -value, down)):
                kind, numbers = climb(told, here)
                self.assertEqual(many, None if kind == "endless" else len(numbers), (told, here))
                lengths.add(-1 if many is None else many)
        self.assertGreater(max(lengths), 50)
        self.assertGreater(len(lengths), 20)

    def test_ends_of_reach_need_none(self):
        for sides in some_sides(49, 200, most_step=9):
            for number, end in enumerate(reach(sides, 3)):
                if end is not None:
                    self.assertEqual(efforts(sides, end)[number], 0)

    def test_thirty_digits(self):
        # From 1 on to the one value that stands on both sides; each step of the wide one takes two hand-overs.
        one, other = (0, HUGE, "up"), (0, HUGE_OTHER, "up")
        for sides in ([one, other], [other, one]):
            self.assertEqual(efforts(sides, 0), (0, 0))
            self.assertEqual(efforts(sides, -1), (0, 1))
            self.assertEqual(efforts(sides, -HUGE), (0, 2))
            self.assertEqual(efforts(sides, -HUGE_OTHER), (0, 1))
            self.assertEqual(efforts(sides, 1), (0, 2 * HUGE_OTHER - 1))
            self.assertEqual(efforts(mirrored(sides), -1), (2 * HUGE_OTHER - 1, 0))
        self.assertEqual(efforts([(0, 10 ** 30, "up"), (1, 10 ** 29, "up")], 0), (0, None))
        self.assertEqual(efforts([(0, 10 ** 30, "down"), (1, 10 ** 29, "down")], 0), (None, 0))
        self.assertEqual(efforts([(10 ** 40, HUGE, "half_even")], 10 ** 40 + 1), (1, 0))

    def test_thirty_digits_step_by_step(self):
        source = random.Random(50)
        for modes in itertools.product(MODES, repeat=2):
            sides = [(source.randint(-10 ** 40, 10 ** 40), step, mode) for step, mode in zip((HUGE, 10 ** 30), modes)]
            for told, number in ((sides, 1), (mirrored(sides), 0)):
                value = source.randint(-10 ** 60, 10 ** 60)
                many = efforts(told, value)[1]
                row = row_up(told, value, 200)
                for passed in range(0, 200, 7):
                    self.assertEqual(efforts(told, row[passed])[1], None if many is None else max(0, many - passed))

    def test_long_periods_of_more_sides(self):
        sides = [(0, 3, "half_up"), (1, 3, "half_up"), (2, 3, "half_up"), (0, 33333, "half_up")]
        self.assertEqual(efforts(sides, 2), (None, None))
        sides = SLOW + [(0, 2, "down")]
        self.assertEqual(efforts(sides, 1), (1, row_up(sides, 1, 3000).index(31 * 37 * 41)))

    def test_errors_of_reach(self):
        for sides in ([(0, 100001, "up")] * 3, [(0, 100001, "down")] * 3, [(0, 50001, "half_even")] * 3,
                      [(0, HUGE, "down"), (0, HUGE, "down"), (1, HUGE, "half_down"), (0, 2, "up")]):
            for value in (0, 1, -10 ** 199):
                with self.assertRaises(TooMany):
                    efforts(sides, value)
            for thing in NO_INTEGERS:
                with self.assertRaises(InvalidValue):
                    efforts(sides, thing)
        self.assertEqual(efforts([(0, 100000, "up")] * 3, 1), (0, 1))
        self.assertEqual(efforts([(0, 100001, "up")] * 2 + [(0, 100003, "down")] * 2, 1), (1, 1))
        for thing in wrong_lists_of_sides():
            for value in (0, None):
                with self.assertRaises(InvalidSides, msg=repr(thing)[:80]):
                    efforts(thing, value)


class FewestPlacesTest(unittest.TestCase):

    def test_places(self):
        tens = [(0, 10, "half_up")]
        for sides, side, answer in (
                (tens, (0, 100, "half_up"), 1), (tens, (0, 10, "half_up"), 0), (tens, (0, 1000, "half_up"), 2),
                (tens, (0, 10000, "half_up"), 3), (tens, (0, 7, "half_up"), None), (tens, (0, 70, "half_up"), None),
                (tens, (0, 5, "half_up"), None), (tens, (3, 100, "half_up"), 2), (tens, (5, 100, "half_up"), 2),
                (tens, (3, 1, "up"), 0), (tens, (3, 30, "half_up"), None), (tens, (0, 100, "half_down"), 2),
                ([(0, 10, "down")], (0, 100, "down"), 1), ([(0, 10, "down")], (0, 100, "up"), 2),
                ([(0, 10, "down"), (5, 10, "down"), (1, 10, "down")], (7, 50, "down"), 0),
                ([(0, 1, "down")], (7, 1000, "half_even"), 3), ([(0, 1, "down")], (7, 1250, "half_even"), None)):
            self.assertEqual(fewest_places(sides, side), answer, (sides, side))
        self.assertEqual(fewest_places(side=(0, 100, "half_up"), sides=tens), 1)

    def test_against_all_hand_overs(self):
        source = random.Random(51)
        kinds = set()
        for sides in some_sides(52, 160, most_sides=3, most_step=5):
            side = (source.randint(-9, 9), source.choice((1, 2, 3, 4, 10, 20, 50, 100)), source.choice(MODES))
            answer = fewest_places_by_search(sides, side)
            self.assertEqual(fewest_places(sides, side), answer, (sides, side))
            kinds.add((len(sides), answer))
        self.assertTrue({(many, answer) for many in (1, 2, 3) for answer in (None, 0, 1)} <= kinds, kinds)

    def test_as_unneeded_tells(self):
        for sides in some_sides(53, 200, most_sides=3, most_step=7):
            for side in ((3, 7, "up"), (0, 9, "half_even"), (1, 21, "down")):
                self.assertEqual(fewest_places(sides, side), 0 if len(sides) in unneeded(sides + [side]) else None)

    def test_a_period_of_twenty_thousand_and_beyond(self):
        for sides, side, answer in (
                ([(0, 20000, "up")], (0, 20000, "up"), 0), ([(0, 20000, "up")], (1, 20000, "up"), None),
                ([(1, 2, "up"), (1, 4, "up")], (0, 20000, "up"), None), ([(0, 2, "up")], (0, 10000, "half_even"), 4),
                ([(0, 10, "up")], (3, 10000, "up"), 4), ([(0, 10000, "half_even")], (0, 4, "down"), None),
                ([(0, 2, "up"), (0, 10, "up"), (0, 20000, "down")], (0, 10000, "up"), 3)):
            self.assertEqual(fewest_places(sides, side), answer, (sides, side))
        for sides, side in (
                ([(0, 20001, "up")], (0, 1, "up")), ([(0, 1, "up")], (0, 20001, "up")),
                ([(0, 10001, "half_even")], (0, 1, "up")), ([(0, 1, "up")], (0, 10001, "half_even")),
                ([(0, 3, "up")], (0, 20000, "up")), ([(0, 3, "up"), (0, 7001, "down")], (0, 1, "up")),
                ([(0, 10, "up")], (0, 10 ** 30, "up")), ([(0, 10 ** 30, "up")] * 3, (0, 10, "up")),
                ([(0, 10, "up")], (0, 100000, "up"))):
            with self.assertRaises(TooMany):
                fewest_places(sides, side)

    def test_errors(self):
        for thing in wrong_lists_of_sides():
            for side in (SIDE, None, (0, 20001, "up"), (0, 0, "up")):
                with self.assertRaises(InvalidSides, msg=repr(thing)[:80]):
                    fewest_places(thing, side)
        for sides in ([SIDE] * 4, [(0, HUGE, "up")] * 4, []):
            for side in (SIDE, None):
                with self.assertRaises(InvalidSides):
                    fewest_places(sides, side)
        for thing in wrong_sides():
            for sides in ([SIDE], [SIDE] * 3, [(0, 20001, "up")], [(0, HUGE, "up")]):
                with self.assertRaises(InvalidSide, msg=repr(thing)[:80]):
                    fewest_places(sides, thing)

    def test_arguments_stay(self):
        sides = [(0, 10, "half_up"), (3, 7, "down")]
        kept = copy.deepcopy(sides)
        first = [within(sides, 5, 10 ** 40), efforts(sides, 5), fewest_places(sides, (0, 100, "up"))]
        self.assertEqual(sides, kept)
        self.assertEqual([within(sides, 5, 10 ** 40), efforts(sides, 5), fewest_places(sides, (0, 100, "up"))], first)


if __name__ == "__main__":
    unittest.main()
