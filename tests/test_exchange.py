"""Whether the order of two sides matters ([12])."""

import itertools
import random
import unittest

from handedtext.errors import InvalidSide, InvalidValue
from handedtext.exchange import exchange
from handedtext.sides import form, handed, stands
from oracle import exchange_by_search
from samples import HUGE, HUGE_OTHER, MODES, NO_INTEGERS, SIDE, wrong_sides

TENS = (0, 10, "half_up")
HUNDREDS = (0, 100, "half_up")


def differs(first, second, value):
    """Return whether the order matters for a value."""
    return handed(second, handed(first, value)) != handed(first, handed(second, value))


class ExchangeTest(unittest.TestCase):

    def check(self, first, second, value, answer):
        """Check the answer for both orders of two sides."""
        self.assertEqual(exchange(first, second, value), answer, (first, second, value))
        self.assertEqual(exchange(second, first, value), answer, (second, first, value))

    def test_values(self):
        for first, second, value, answer in (
                (TENS, HUNDREDS, 0, 45), (TENS, HUNDREDS, 45, 45), (TENS, HUNDREDS, 46, 46), (TENS, HUNDREDS, 49, 49),
                (TENS, HUNDREDS, 50, 145), (TENS, HUNDREDS, -60, -55), (TENS, HUNDREDS, 45 + 10 ** 40, 45 + 10 ** 40),
                ((0, 3, "half_up"), (0, 9, "half_up"), 0, None), ((0, 10, "down"), (0, 100, "down"), 7, None),
                ((0, 10, "up"), (0, 100, "up"), 7, None), ((0, 10, "down"), (0, 10, "up"), 0, 1),
                ((0, 10, "down"), (0, 10, "up"), 10, 11), ((0, 10, "up"), (5, 10, "up"), 3, 3),
                ((0, 10, "half_up"), (0, 10, "half_down"), 0, 5), ((0, 10, "half_up"), (0, 10, "half_down"), 6, 15),
                ((0, 10, "half_up"), (0, 10, "half_even"), 0, 5), ((0, 10, "half_up"), (0, 10, "half_even"), 6, 25),
                ((0, 10, "half_even"), (10, 10, "half_even"), 6, 15), ((0, 5, "up"), (0, 10, "half_down"), 0, None),
                ((0, 1, "up"), (3, 10, "down"), 0, None), ((0, 1, "up"), (5, 1, "half_even"), 0, None)):
            self.check(first, second, value, answer)
        self.assertEqual(exchange(value=0, second=HUNDREDS, first=TENS), 45)

    def test_small_sides_against_all_values(self):
        kinds = set()
        for modes in itertools.product(MODES, repeat=2):
            for steps in itertools.product(range(1, 7), repeat=2):
                for offset in (0, 1, 2, 3, 6):
                    first, second = (0, steps[0], modes[0]), (offset, steps[1], modes[1])
                    for value in (0, 1, 3, 7):
                        answer = exchange_by_search(first, second, value)
                        self.assertEqual(exchange(first, second, value), answer, (first, second, value))
                        kinds.add(None if answer is None else min(answer - value, 6))
        self.assertEqual(kinds, {None, 0, 1, 2, 3, 4, 5, 6})

    def test_steps_that_are_multiples_against_all_values(self):
        source = random.Random(15)
        for _ in range(1500):
            narrow = source.randint(1, 9)
            offset = source.randint(-20, 20)
            first = (offset, narrow, source.choice(MODES))
            second = (offset + narrow * source.randint(-3, 3), narrow * source.randint(1, 6), source.choice(MODES))
            value = source.randint(-60, 60)
            self.check(first, second, value, exchange_by_search(first, second, value))

    def test_only_a_period_later(self):
        # The order matters at every other figure alone, and not for what is left of the one that has begun.
        first, second = (0, 100, "half_even"), (0, 10, "half_up")
        for value, answer in ((0, 51), (54, 54), (55, 145), (149, 149), (150, 251), (-50, 51), (-51, -51)):
            self.check(first, second, value, answer)
        first, second = (0, 10, "half_even"), (0, 10, "half_down")
        for value, answer in ((15, 15), (16, 35), (34, 35), (-4, 15)):
            self.check(first, second, value, answer)
        first, second = (0, 10 ** 30, "half_even"), (10 ** 30, 10 ** 30, "half_up")
        half = 5 * 10 ** 29
        later = half + 2 * 10 ** 30
        for value, answer in ((0, half), (half, half), (half + 1, later), (10 ** 30, later)):
            self.check(first, second, value, answer)

    def test_equal_sides_and_sides_that_write_alike(self):
        for side in (SIDE, (5, HUGE, "half_even"), (10 ** 40, 10 ** 30, "half_down"), (3, 1, "up")):
            for value in (0, 5, 10 ** 199, -10 ** 199):
                self.check(side, side, value, None)
        for first, second in (
                ((0, 10, "up"), (20, 10, "up")), ((0, 7, "half_up"), (7, 7, "half_even")),
                ((0, 1, "up"), (9, 1, "down")), ((0, 2, "half_up"), (2, 2, "up")),
                ((1, HUGE, "half_down"), (1 - 3 * HUGE, HUGE, "half_up")),
                ((0, 10, "half_even"), (-20, 10, "half_even"))):
            self.assertEqual(form(first), form(second))
            for value in range(-20, 21):
                self.check(first, second, value, None)

    def test_when_it_never_matters(self):
        # What the document says of it: for sides of unlike steps, and for those of equal ones.
        for first, second in itertools.product(
                [(offset, step, mode) for offset in (0, 3) for step in (3, 6, 9, 12) for mode in MODES],
                [(offset, step, mode) for offset in (0, 1, 3) for step in (1, 3, 6) for mode in MODES]):
            if first[1] > second[1]:
                never = all(
                    stands(second, value) for value in range(0, 300) if stands(first, value)
                ) and all(handed(first, handed(second, value)) == handed(first, value) for value in range(100))
                self.assertEqual(exchange(first, second, 0) is None, never, (first, second))
            if first[1] == second[1]:
                self.assertEqual(exchange(first, second, 0) is None, form(first) == form(second), (first, second))

    def test_thirty_digits_with_nothing_in_common(self):
        source = random.Random(16)
        for modes in itertools.product(MODES, repeat=2):
            first, second = (10 ** 40, HUGE, modes[0]), (-10 ** 40 + 1, HUGE_OTHER, modes[1])
            for _ in range(5):
                value = source.randrange(-10 ** 60, 10 ** 60)
                answer = exchange(first, second, value)
                self.assertTrue(differs(first, second, answer))
                self.check(first, second, value, answer)

    def test_thirty_digits_around_a_value_that_stands_on_both(self):
        # 0 stands on both sides, the neighbours of the wider one do not.
        for mode, least in (("down", 0), ("up", 1 - HUGE), ("half_down", -(HUGE - 1) // 2)):
            wide, narrow = (0, HUGE, mode), (0, HUGE_OTHER, mode)
            answer = exchange(wide, narrow, least)
            self.check(wide, narrow, least, answer)
            self.assertTrue(differs(wide, narrow, answer))
            self.assertTrue(differs(wide, narrow, least - 1))
            self.check(wide, narrow, least - 1, least - 1)
            for value in range(answer - 1, max(least, answer - 50) - 1, -1):
                self.assertFalse(differs(wide, narrow, value))
                self.check(wide, narrow, value, answer)
        self.assertEqual(exchange((0, HUGE, "down"), (0, HUGE_OTHER, "down"), 0), HUGE)
        self.check((0, HUGE, "down"), (0, 3, "up"), 0, HUGE - 1)

    def test_thirty_digits_that_are_multiples(self):
        for first, second, value, answer in (
                ((0, 10 ** 30, "half_up"), (0, 10 ** 29, "half_up"), 0, 45 * 10 ** 28),
                ((0, 10 ** 30, "half_up"), (0, 10 ** 29, "half_up"), 5 * 10 ** 29, 145 * 10 ** 28),
                ((0, 10 ** 30, "up"), (0, 10 ** 15, "half_down"), 0, 1),
                ((0, 10 ** 30, "up"), (0, 10 ** 15, "half_down"), 5 * 10 ** 14 + 1, 10 ** 30 + 1),
                ((0, 10 ** 30, "up"), (0, 10 ** 15, "down"), 10 ** 15, 10 ** 30 + 1),
                ((5, 10 ** 30, "down"), (5 - 10 ** 40, 10, "down"), 0, None),
                ((10 ** 40, 10 ** 30, "half_down"), (0, 2, "down"), 0, 5 * 10 ** 29 + 1)):
            self.check(first, second, value, answer)
            self.assertTrue(answer is None or differs(first, second, answer))

    def test_errors(self):
        for thing in wrong_sides():
            for value in (0, None, True):
                for first, second in ((thing, SIDE), (SIDE, thing), (thing, thing), (thing, None)):
                    with self.assertRaises(InvalidSide, msg=repr(thing)[:80]):
                        exchange(first, second, value)
        for thing in NO_INTEGERS:
            for second in (SIDE, HUNDREDS, (3, HUGE, "up")):
                with self.assertRaises(InvalidValue):
                    exchange(SIDE, second, thing)


if __name__ == "__main__":
    unittest.main()
