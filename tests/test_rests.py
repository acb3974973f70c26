"""What happens to a value in the long run ([26], [27])."""

import copy
import random
import unittest

from handedtext.errors import InvalidSides, InvalidValue, TooMany
from handedtext.orders import reach
from handedtext.rests import outcomes, rests
from handedtext.sides import handed
from oracle import period, reach_by_search, reached, some_sides
from samples import HUGE, HUGE_OTHER, NO_INTEGERS, SIDE, SLOW, mirrored, wrong_lists_of_sides

SIDES = [(0, 10, "up"), (3, 10, "down")]


def outcomes_by_search(sides, value):
    """Return what outcomes tells, None where there is no end."""
    if None in reach_by_search(sides, value):
        return None
    return sorted(reached(sides, value, 2 * period(sides) + 20))


def rests_by_search(sides, value):
    """Return what rests tells, by what each outcome comes to."""
    found = []
    for here in outcomes_by_search(sides, value):
        row = outcomes_by_search(sides, here)
        if row not in found and all(outcomes_by_search(sides, there) == row for there in row):
            found.append(row)
    return sorted(found)


class OutcomesTest(unittest.TestCase):

    def test_values(self):
        for sides, value, answer in (
                ([(0, 10, "up")], 10, [10]), ([(0, 10, "up")], 7, [7, 10]), (SIDES, 7, [3, 7, 10]), (SIDES, 3, [3, 10]),
                (SIDES, 10, [3, 10]), ([(0, 1, "up"), (5, 1, "half_even")], 3, [3]),
                ([(0, 10, "up"), (5, 15, "up")], 1, [1, 5, 10, 20]),
                ([(0, 10, "up"), (0, 10, "down")], -1, [-10, -1, 0])):
            self.assertEqual(outcomes(sides, value), answer, (sides, value))
        self.assertEqual(outcomes(value=7, sides=SIDES), [3, 7, 10])

    def test_against_all_hand_overs(self):
        kinds = set()
        for sides in some_sides(100, 500, most_step=7):
            for value in (0, 5):
                answer = outcomes_by_search(sides, value)
                if answer is None:
                    with self.assertRaises(TooMany, msg=(sides, value)):
                        outcomes(sides, value)
                    with self.assertRaises(TooMany, msg=(sides, value)):
                        rests(sides, value)
                else:
                    self.assertEqual(outcomes(sides, value), answer, (sides, value))
                kinds.add(None if answer is None else min(len(answer), 6))
        self.assertEqual(kinds, {None, 1, 2, 3, 4, 5, 6})

    def test_a_thousand_and_one_more(self):
        end = 31 * 37 * 41
        standing = [value for value in range(end, end - 20000, -1) if 0 in (value % 31, value % 37, value % 41)]
        found = {len(reached(SLOW, value, end)): value for value in standing[1000:1100]}
        for many in (998, 999, 1000, 1001, 1002, 1003):
            for sides, value, last in ((SLOW, found[many], end), (mirrored(SLOW), -found[many], -end)):
                if many <= 1000:
                    answer = outcomes(sides, value)
                    self.assertEqual(answer, sorted(reached(sides, value, end)))
                    self.assertEqual(len(answer), many)
                    self.assertEqual(rests(sides, value), [[last]])
                else:
                    for function in (outcomes, rests):
                        with self.assertRaises(TooMany):
                            function(sides, value)

    def test_no_end(self):
        up, down = [(0, 10, "up"), (5, 10, "up")], [(0, 10, "down"), (5, 10, "down")]
        for sides in (up, down, [(0, 3, "half_up"), (1, 3, "half_up"), (2, 3, "half_up")], up + down,
                      [(0, 10 ** 30, "up"), (1, 10 ** 29, "up")], [(0, 10 ** 30, "down"), (1, 10 ** 29, "down")]):
            for value in (1, -10 ** 199):
                self.assertIn(None, reach(sides, value))
                for function in (outcomes, rests):
                    with self.assertRaises(TooMany):
                        function(sides, value)

    def test_thirty_digits(self):
        one, other = (0, HUGE, "up"), (0, HUGE_OTHER, "up")
        both = HUGE * HUGE_OTHER
        for value, answer in (
                (0, [0]), (-1, [-1, 0]), (-HUGE, [-HUGE, -HUGE_OTHER, 0]), (-HUGE_OTHER, [-HUGE_OTHER, 0]),
                (both - HUGE - 1, [both - HUGE - 1, both - HUGE, both - HUGE_OTHER, both])):
            self.assertEqual(outcomes([one, other], value), answer)
            self.assertEqual(rests([one, other], value), [answer[-1:]])
        with self.assertRaises(TooMany):
            outcomes([one, other], 1)
        sides = [(10 ** 40, HUGE, "half_up"), (-10 ** 40, 10 ** 30, "half_down")]
        answer = outcomes(sides, 10 ** 60)
        self.assertEqual(answer, sorted(set(answer)))
        self.assertTrue({handed(side, here) for side in sides for here in answer} <= set(answer))
        self.assertEqual((answer[0], answer[-1]), reach(sides, 10 ** 60))

    def test_errors(self):
        for thing in wrong_lists_of_sides():
            for value in (0, None):
                for function in (outcomes, rests):
                    with self.assertRaises(InvalidSides, msg=repr(thing)[:80]):
                        function(thing, value)
        for thing in NO_INTEGERS:
            for sides in ([SIDE], SLOW, [(0, 10, "up"), (5, 10, "up")]):
                for function in (outcomes, rests):
                    with self.assertRaises(InvalidValue):
                        function(sides, thing)

    def test_new_lists_and_arguments_stay(self):
        sides = copy.deepcopy(SIDES)
        outcomes(sides, 7).append(7)
        answer = rests(sides, 7)
        answer[0].append(7)
        answer.append(7)
        self.assertEqual((sides, outcomes(sides, 7), rests(sides, 7)), (SIDES, [3, 7, 10], [[3, 10]]))


class RestsTest(unittest.TestCase):

    def test_sets(self):
        both = [(0, 10, "up"), (0, 10, "down")]
        for sides, value, answer in (
                ([(0, 10, "up")], 10, [[10]]), ([(0, 10, "up")], 7, [[10]]), (SIDES, 7, [[3, 10]]),
                (SIDES, 3, [[3, 10]]),
                (SIDES, 1, [[-7, 0], [3, 10]]), (both, 1, [[0], [10]]), (both, -1, [[-10], [0]]), (both, 10, [[10]]),
                ([(0, 10, "up"), (0, 20, "up"), (0, 5, "down")], 1, [[0], [20]]),
                ([(0, 1, "up")], 7, [[7]]), (SIDES + [(5, 10, "half_down")], 4, [[3, 5, 10]]),
                (SIDES + [(5, 10, "half_down")], 1, [[-7, -5, 0], [3, 5, 10]])):
            self.assertEqual(rests(sides, value), answer, (sides, value))
        self.assertEqual(rests(value=7, sides=SIDES), [[3, 10]])

    def test_against_all_hand_overs(self):
        kinds = set()
        for sides in some_sides(101, 300, most_step=7, most_sides=3) + some_sides(102, 200, most_step=20, most_sides=2):
            for value in (0, 5):
                if None not in reach(sides, value):
                    answer = rests_by_search(sides, value)
                    self.assertEqual(rests(sides, value), answer, (sides, value))
                    kinds.update((min(len(answer), 3), min(len(row), 3)) for row in answer)
        self.assertTrue({(1, 1), (1, 2), (1, 3), (2, 1), (2, 2), (2, 3)} <= kinds, kinds)

    def test_long_sets(self):
        source = random.Random(103)
        lengths = set()
        for _ in range(400):
            sides = [(source.randint(0, 20), source.choice((4, 6, 8, 12, 18, 24)),
                      source.choice(("half_up", "half_down", "half_even"))) for _ in range(4)]
            value = source.randint(-50, 50)
            if None not in reach(sides, value):
                answer = rests(sides, value)
                self.assertEqual(answer, rests_by_search(sides, value), (sides, value))
                lengths.add((len(answer), max(len(row) for row in answer)))
        self.assertGreater(max(many for number, many in lengths if number == 1), 8)
        self.assertGreater(max(many for number, many in lengths if number == 2), 3)


if __name__ == "__main__":
    unittest.main()
