"""Values that go there and back between two sides ([14])."""

import itertools
import random
import unittest

from handedtext.backs import pace, settled
from handedtext.errors import InvalidSide, InvalidValue
from handedtext.sides import form, handed, mirror, stands
from oracle import settled_by_search
from samples import HUGE, HUGE_OTHER, MODES, NO_INTEGERS, SIDE, wrong_sides


def round_of(first, second, value):
    """Return where a value comes that goes there and back."""
    return handed(first, handed(second, value))


class BacksTest(unittest.TestCase):

    def check(self, first, second, value, answer):
        """Check what settled tells, and that pace fits."""
        self.assertEqual(settled(first, second, value), answer, (first, second, value))
        self.assertEqual(pace(first, second), answer[1] if answer[0] == "creeps" else 0, (first, second))

    def test_values(self):
        up, down = (0, 4, "up"), (0, 4, "down")
        for first, second, value, answer in (
                ((0, 10, "up"), up, 1, ("settles", 20, 1)), ((0, 10, "up"), up, 11, ("settles", 20, 0)),
                (up, (0, 10, "up"), 1, ("settles", 20, 2)), (up, (0, 10, "up"), 17, ("settles", 20, 0)),
                (down, (1, 6, "down"), 0, ("creeps", -6)), ((1, 6, "down"), down, 0, ("creeps", -6)),
                (up, (1, 6, "up"), 0, ("creeps", 6)), ((1, 6, "up"), up, 0, ("creeps", 6)),
                (up, (1, 6, "down"), 0, ("settles", -4, 1)), (up, (1, 6, "down"), 1, ("settles", 4, 0)),
                ((0, 4, "up"), (2, 4, "up"), 0, ("creeps", 4)),
                ((0, 4, "half_up"), (2, 4, "half_up"), 0, ("creeps", 4)),
                ((0, 4, "half_down"), (2, 4, "half_down"), 0, ("creeps", -4)),
                ((0, 4, "half_up"), (2, 4, "half_down"), 0, ("settles", 0, 0)),
                ((0, 4, "half_even"), (2, 4, "half_even"), 4, ("settles", 0, 1)),
                ((0, 10, "half_up"), (0, 100, "half_up"), 45, ("settles", 100, 1)),
                ((0, 100, "half_up"), (0, 10, "half_up"), 45, ("settles", 0, 0)),
                ((0, 10, "half_even"), (0, 7, "half_even"), 35, ("settles", 40, 0)),
                ((0, 1, "up"), (3, 7, "half_even"), 0, ("settles", 3, 1))):
            self.check(first, second, value, answer)
        self.assertEqual(settled(value=1, second=(0, 4, "up"), first=(0, 10, "up")), ("settles", 20, 1))
        self.assertEqual(pace(second=(1, 6, "down"), first=(0, 4, "down")), -6)

    def test_small_sides_against_all_rounds(self):
        source = random.Random(30)
        kinds = set()
        for modes in itertools.product(MODES, repeat=2):
            for steps in itertools.product(range(1, 10), repeat=2):
                first, second = [(source.randint(-20, 20), step, mode) for step, mode in zip(steps, modes)]
                for value in (0, source.randint(-60, 60)):
                    answer = settled_by_search(first, second, value)
                    self.check(first, second, value, answer)
                    order = (steps[0] > steps[1]) - (steps[0] < steps[1])
                    kinds.add((order, str(min(answer[2], 4)) if answer[0] == "settles" else answer[1] > 0))
        # With equal steps values settle at once or in one round.
        self.assertEqual(len(kinds), 7 + 7 + 4, kinds)

    def test_equal_steps_against_all_rounds(self):
        for modes in itertools.product(MODES, repeat=2):
            for step in (1, 2, 3, 4, 5, 6):
                for offset, value in itertools.product(range(-1, 2 * step), (0, 1, step, 3 * step - 1)):
                    first, second = (0, step, modes[0]), (offset, step, modes[1])
                    self.check(first, second, value, settled_by_search(first, second, value))

    def test_steps_that_are_multiples_against_all_rounds(self):
        source = random.Random(31)
        for modes in itertools.product(MODES, repeat=2):
            for _ in range(30):
                narrow = source.randint(1, 6)
                first = (source.randint(-9, 9), narrow, modes[0])
                second = (source.randint(-9, 9), narrow * source.randint(1, 4), modes[1])
                for one, other in ((first, second), (second, first)):
                    value = source.randint(-60, 60)
                    self.check(one, other, value, settled_by_search(one, other, value))

    def test_many_rounds_against_all_rounds(self):
        rounds = set()
        source = random.Random(32)
        for steps in ((97, 101), (101, 97), (100, 98), (99, 100), (64, 100), (200, 101), (120, 91)):
            for modes in itertools.product(MODES, repeat=2):
                first, second = [(source.randint(-200, 200), step, mode) for step, mode in zip(steps, modes)]
                value = source.randint(-10 ** 6, 10 ** 6)
                answer = settled_by_search(first, second, value)
                self.check(first, second, value, answer)
                if answer[0] == "settles":
                    rounds.add(answer[2])
        self.assertGreater(max(rounds), 40)
        self.assertGreater(len(rounds), 15)

    def check_many_rounds(self, first, second, value):
        """Check an answer for sides with great steps; return the rounds, or None if values creep."""
        wide = max(first[1], second[1])
        answer = settled(first, second, value)
        start = handed(first, value)
        if answer[0] == "creeps":
            self.assertEqual((abs(answer[1]), pace(first, second)), (wide, answer[1]))
            moved = start
            for _ in range(200):
                moved = round_of(first, second, moved)
            self.assertLess(abs(moved - start - 200 * answer[1]), 2 * wide)
            return None
        _, end, rounds = answer
        self.assertEqual(pace(first, second), 0)
        self.assertTrue(stands(first, end))
        self.assertEqual(round_of(first, second, end), end)
        # It moves in each round but the first and the last one by just a step of the wider side.
        self.assertLessEqual(abs(abs(end - start) - wide * rounds), 2 * wide)
        sign = 1 if end >= start else -1
        if rounds > 1:
            # A round earlier it does not yet stand there, and not a long time ahead either.
            there = handed(second, end) if second[1] >= first[1] else end
            for back in (1, 2, 3, 1000, rounds // 3, rounds // 2):
                if back < rounds - 1:
                    earlier = handed(first, there - sign * wide * back)
                    self.assertNotEqual(round_of(first, second, earlier), earlier)
        moved = start
        for many in range(min(rounds, 60)):
            following = round_of(first, second, moved)
            self.assertGreater(sign * (following - moved), 0)
            moved = following
        if rounds <= 60:
            self.assertEqual(moved, end)
        return rounds

    def test_thirty_digits(self):
        source = random.Random(33)
        digits = set()
        for modes in itertools.product(MODES, repeat=2):
            for steps in ((HUGE, HUGE_OTHER), (HUGE_OTHER, HUGE), (10 ** 30, 10 ** 30 - 2), (HUGE - 1, 10 ** 30),
                          (10 ** 15 + 1, 10 ** 30), (10 ** 30, 3 ** 60), (HUGE, HUGE), (10 ** 30, 10 ** 29)):
                first = (source.randint(-10 ** 40, 10 ** 40), steps[0], modes[0])
                second = (source.randint(-10 ** 40, 10 ** 40), steps[1], modes[1])
                for value in (0, source.randint(-10 ** 60, 10 ** 60)):
                    rounds = self.check_many_rounds(first, second, value)
                    digits.add(-1 if rounds is None else len(str(rounds)))
        self.assertTrue({-1, 1, 28, 29, 30} <= digits, digits)

    def test_thirty_digits_that_are_known(self):
        # 0 is the one value from 1 - HUGE * HUGE_OTHER on that stands on both sides.
        one, other = (0, HUGE, "up"), (0, HUGE_OTHER, "up")
        both = HUGE * HUGE_OTHER
        self.check(one, other, 1 - both, ("settles", 0, HUGE_OTHER - 1))
        self.check(one, other, -HUGE, ("settles", 0, 1))
        self.check(one, other, 0, ("settles", 0, 0))
        self.check(one, other, 1, ("settles", both, HUGE_OTHER - 1))
        self.check(mirror(one), mirror(other), -1, ("settles", -both, HUGE_OTHER - 1))
        self.check(other, one, -HUGE_OTHER, ("settles", 0, 1))
        self.check(other, one, 0, ("settles", 0, 0))
        self.check(other, one, -HUGE, ("settles", 0, 1))
        self.check((0, 10 ** 30, "up"), (1, 10 ** 29, "up"), 5, ("creeps", 10 ** 30))
        self.check((1, 10 ** 29, "down"), (0, 10 ** 30, "down"), 5, ("creeps", -10 ** 30))
        self.check((5 * 10 ** 29, 10 ** 30, "half_up"), (10 ** 40, 10 ** 30, "half_up"), 5, ("creeps", 10 ** 30))
        self.check((0, 10 ** 30, "half_even"), (5 * 10 ** 29, 10 ** 30, "half_even"), 10 ** 30, ("settles", 0, 1))
        self.check((0, 10 ** 30, "up"), (0, 10, "up"), 10 ** 199 + 1, ("settles", 10 ** 199 + 10 ** 30, 0))

    def test_equal_sides_and_sides_that_write_alike(self):
        for side in (SIDE, (5, HUGE, "half_even"), (10 ** 40, 10 ** 30, "half_down"), (3, 1, "up"), (0, 2, "half_up")):
            for other in (side, form(side)):
                for value in (0, 5, 10 ** 199, -10 ** 199):
                    self.check(side, other, value, ("settles", handed(side, value), 0))

    def test_values_settle_just_if_the_pace_is_none(self):
        for modes in itertools.product(MODES, repeat=2):
            for steps in itertools.product((1, 2, 3, 4, 6), repeat=2):
                for offset in range(4):
                    first, second = (0, steps[0], modes[0]), (offset, steps[1], modes[1])
                    kinds = {settled(first, second, value)[0] for value in range(24)}
                    self.assertEqual(kinds, {"creeps" if pace(first, second) else "settles"})

    def test_mirrors(self):
        source = random.Random(34)
        for _ in range(200):
            first, second = [(source.randint(-99, 99), source.randint(1, 99), source.choice(MODES)) for _ in range(2)]
            self.assertEqual(pace(mirror(first), mirror(second)), -pace(first, second))
            answer = settled(first, second, 12)
            turned = ("creeps", -answer[1]) if answer[0] == "creeps" else ("settles", -answer[1], answer[2])
            self.assertEqual(settled(mirror(first), mirror(second), -12), turned)

    def test_errors(self):
        for thing in wrong_sides():
            for first, second in ((thing, SIDE), (SIDE, thing), (thing, thing), (thing, None)):
                with self.assertRaises(InvalidSide, msg=repr(thing)[:80]):
                    pace(first, second)
                for value in (0, None, True):
                    with self.assertRaises(InvalidSide, msg=repr(thing)[:80]):
                        settled(first, second, value)
        for thing in NO_INTEGERS:
            for second in (SIDE, (3, HUGE, "up"), (3, 10, "up")):
                with self.assertRaises(InvalidValue):
                    settled(SIDE, second, thing)


if __name__ == "__main__":
    unittest.main()
