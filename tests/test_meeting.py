"""The hand-overs behind which two values are the same ([16])."""

import copy
import itertools
import random
import unittest

from handedtext.errors import InvalidSides, InvalidValue, TooMany
from handedtext.limits import meeting
from handedtext.ways import along
from oracle import meeting_by_search, period, some_sides
from samples import HUGE, NO_INTEGERS, mirrored, wrong_lists_of_sides

SIDES = [(0, 10, "up"), (3, 10, "down")]


class MeetingTest(unittest.TestCase):

    def check(self, sides, one, other, answer):
        """Check an answer, also with the values exchanged, and moved by periods."""
        for moved in (0, period(sides), -7 * period(sides), 10 ** 190 * period(sides)):
            self.assertEqual(meeting(sides, one + moved, other + moved), answer, (sides, one, other, moved))
            self.assertEqual(meeting(sides, other + moved, one + moved), answer, (sides, other, one, moved))

    def test_lists(self):
        for sides, one, other, answer in (
                (SIDES, 4, 11, [1]), (SIDES, 4, 4, []), (SIDES, 1, 10, [0]), (SIDES, 0, 1, [1]), (SIDES, 3, 4, [0]),
                (SIDES, 0, 4, None), (SIDES, 0, 10, None), ([(0, 10, "up")], 1, 10, [0]),
                ([(0, 10, "up")], 0, 1, None), ([(0, 10, "half_up")], 4, 5, None), ([(0, 10, "half_up")], 5, 14, [0]),
                ([(0, 10, "half_up"), (0, 10, "half_down")], 4, 5, [1]),
                ([(0, 10, "half_up"), (0, 10, "up"), (0, 10, "half_down")], 5, 6, [0]),
                ([(0, 4, "up"), (0, 6, "up")], 4, 6, [1]), ([(0, 4, "up"), (0, 6, "up")], 1, 5, [1]),
                ([(0, 4, "up"), (0, 6, "down")], 6, 7, [0]), ([(0, 2, "up"), (0, 3, "up")], 2, 3, [1]),
                ([(0, 2, "up"), (0, 3, "up")], 1, 3, [1]), ([(0, 2, "up"), (0, 3, "up")], 3, 5, [0, 1]),
                ([(0, 1, "up")], 0, 1, None), ([(0, 1, "up")] * 4, 5, 5, [])):
            self.check(sides, one, other, answer)
        self.assertEqual(meeting(other=11, one=4, sides=SIDES), [1])

    def test_against_all_pairs(self):
        source = random.Random(60)
        lengths = set()
        for sides in some_sides(61, 900, most_step=6):
            if period(sides) <= 120:
                for _ in range(3):
                    one, other = source.randint(-60, 60), source.randint(-60, 60)
                    answer = meeting_by_search(sides, one, other)
                    self.assertEqual(meeting(sides, one, other), answer, (sides, one, other))
                    self.assertEqual(meeting(sides, other, one), answer, (sides, other, one))
                    lengths.add(None if answer is None else len(answer))
        self.assertTrue({None, 0, 1, 2, 3, 4, 5, 10} <= lengths, lengths)

    def test_against_all_lists(self):
        for sides in some_sides(62, 150, most_step=5, most_sides=3):
            for one, other in ((0, 1), (3, -4), (0, 12)):
                found = None
                for many in range(5):
                    for numbers in itertools.product(range(len(sides)), repeat=many):
                        ends = [([value] + along(sides, list(numbers), value))[-1] for value in (one, other)]
                        if found is None and ends[0] == ends[1]:
                            found = list(numbers)
                answer = meeting(sides, one, other)
                if found is None:
                    self.assertTrue(answer is None or len(answer) > 4)
                else:
                    self.assertEqual(answer, found, (sides, one, other))

    def test_mirrors(self):
        for sides in some_sides(63, 200, most_step=5):
            if period(sides) <= 120:
                self.assertEqual(meeting(mirrored(sides), -3, 9), meeting(sides, 3, -9))

    def test_a_period_of_a_hundred_and_twenty_and_beyond(self):
        for sides, one, other, answer in (
                ([(0, 120, "up")], 1, 120, [0]), ([(0, 60, "half_even")], 31, 89, [0]),
                ([(0, 8, "up"), (0, 15, "down")], 1, 8, [0]), ([(0, 24, "up"), (0, 20, "half_even")], 5, 35, None)):
            self.assertEqual(period(sides), 120)
            self.check(sides, one, other, answer)
        for sides in ([(0, 121, "up")], [(0, 61, "half_even")], [(0, 120, "half_even")], [(0, 2, "up"), (0, 61, "up")],
                      [(0, 1, "up"), (0, 1, "down"), (0, 127, "down")], [(0, HUGE, "up")], [(0, 10 ** 30, "down")] * 4):
            for one, other in ((0, 1), (5, 5), (0, 240), (0, 241), (10 ** 199, 0)):
                with self.assertRaises(TooMany, msg=sides):
                    meeting(sides, one, other)

    def test_a_difference_of_two_hundred_and_forty_and_beyond(self):
        sides = [(0, 120, "up"), (0, 120, "down")]
        for start in (0, 1, -7, 10 ** 199, -10 ** 199):
            for difference in (238, 239, 240):
                self.assertEqual(meeting(sides, start, start + difference),
                                 meeting_by_search(sides, start, start + difference))
                self.assertIsNone(meeting(sides, start + difference, start))
            for difference in (241, 242, 10 ** 198):
                for one, other in ((start, start + difference), (start + difference, start)):
                    with self.assertRaises(TooMany):
                        meeting(sides, one, other)
        # By a way round the sides of one side alone stay a period apart.
        creeping = [(number, 4, "half_up") for number in range(4)]
        self.assertEqual(meeting(creeping, 0, 240), meeting_by_search(creeping, 0, 240))

    def test_long_searches(self):
        source = random.Random(64)
        for _ in range(60):
            sides = [(source.randint(-60, 60), source.choice((2, 3, 4, 5, 6, 8, 10, 12, 15, 20, 24, 30, 40, 60, 120)),
                      source.choice(("down", "up", "half_down", "half_up"))) for _ in range(4)]
            one, other = 10 ** 199 + source.randint(0, 120), 10 ** 199 + source.randint(0, 120)
            answer = meeting(sides, one, other)
            self.assertEqual(answer, meeting_by_search(sides, one, other))

    def test_errors(self):
        for thing in wrong_lists_of_sides():
            for one, other in ((0, 1), (None, 0), (0, 241), (True, True)):
                with self.assertRaises(InvalidSides, msg=repr(thing)[:80]):
                    meeting(thing, one, other)
        for thing in NO_INTEGERS:
            for sides in (SIDES, [(0, 121, "up")]):
                for one, other in ((thing, 0), (0, thing), (thing, thing), (thing, 1000)):
                    with self.assertRaises(InvalidValue):
                        meeting(sides, one, other)

    def test_new_lists_and_arguments_stay(self):
        sides = copy.deepcopy(SIDES)
        meeting(sides, 4, 11).append(7)
        meeting(sides, 4, 4).append(7)
        self.assertEqual((sides, meeting(sides, 4, 11), meeting(sides, 4, 4)), (SIDES, [1], []))


if __name__ == "__main__":
    unittest.main()
