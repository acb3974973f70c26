"""Hand-overs by each side just once ([18]), and the sides that keep values from an end ([19])."""

import copy
import itertools
import random
import unittest

from handedtext.errors import InvalidSides, InvalidValue, TooMany
from handedtext.exchange import exchange
from handedtext.once import calm, once, order_matters
from handedtext.orders import reach
from handedtext.ways import along
from oracle import calm_by_search, once_by_search, order_matters_by_search, period, some_sides
from samples import HUGE, HUGE_OTHER, MODES, NO_INTEGERS, SIDE, wrong_lists_of_sides

TENS, HUNDREDS = (0, 10, "half_up"), (0, 100, "half_up")


class OnceTest(unittest.TestCase):

    def test_ends(self):
        for sides, value, answer in (
                ([(0, 10, "up")], 7, [(10, [0])]), ([(0, 10, "up")], 10, [(10, [0])]),
                ([TENS, HUNDREDS], 45, [(0, [1, 0]), (100, [0, 1])]), ([TENS, HUNDREDS], 44, [(0, [0, 1])]),
                ([(0, 10, "up"), (0, 10, "up")], 5, [(10, [0, 1])]), ([(0, 10, "up")] * 4, 5, [(10, [0, 1, 2, 3])]),
                ([(0, 10, "up"), (3, 10, "down")], 7, [(3, [0, 1]), (10, [1, 0])]),
                ([(0, 10, "up"), (0, 10, "down"), (5, 10, "up")], 1,
                 [(0, [2, 1, 0]), (5, [1, 0, 2]), (10, [0, 2, 1]), (15, [0, 1, 2])])):
            self.assertEqual(once(sides, value), answer, (sides, value))
        self.assertEqual(once(value=45, sides=[TENS, HUNDREDS]), [(0, [1, 0]), (100, [0, 1])])

    def test_against_all_orders(self):
        numbers = set()
        for sides in some_sides(70, 400, most_step=9):
            for value in (0, 5, -17):
                answer = once_by_search(sides, value)
                self.assertEqual(once(sides, value), answer, (sides, value))
                numbers.add((len(sides), min(len(answer), 3)))
        self.assertEqual(numbers, {(1, 1), (2, 1), (2, 2), (3, 1), (3, 2), (3, 3), (4, 1), (4, 2), (4, 3)})

    def test_thirty_digits(self):
        source = random.Random(71)
        for modes in itertools.product(MODES, repeat=2):
            sides = [(10 ** 40, HUGE, modes[0]), (-10 ** 40, HUGE_OTHER, modes[1]), (7, 10 ** 30, modes[1]),
                     (8, 10 ** 30 - 2, modes[0])]
            for value in (10 ** 199, -10 ** 199, source.randint(-10 ** 40, 10 ** 40)):
                answer = once(sides, value)
                self.assertEqual(answer, once_by_search(sides, value))
                for end, order in answer:
                    self.assertEqual(along(sides, order, value)[-1], end)

    def test_new_lists(self):
        sides = [TENS, HUNDREDS]
        answer = once(sides, 45)
        answer[0][1].append(7)
        answer.append(7)
        self.assertEqual(sides, [TENS, HUNDREDS])
        self.assertEqual(once(sides, 45), [(0, [1, 0]), (100, [0, 1])])
        answer = once([(0, 10, "up"), (3, 10, "down"), (5, 7, "half_up"), (2, 6, "up")], 7)
        orders = [order for _, order in answer]
        self.assertEqual(len({id(order) for order in orders}), len(orders))

    def test_errors(self):
        for thing in wrong_lists_of_sides():
            for value in (0, None, True):
                with self.assertRaises(InvalidSides, msg=repr(thing)[:80]):
                    once(thing, value)
                with self.assertRaises(InvalidSides, msg=repr(thing)[:80]):
                    order_matters(thing, value)
        for thing in NO_INTEGERS:
            for sides in ([SIDE], [TENS, HUNDREDS], [(0, 2001, "up")], [(0, HUGE, "up")] * 4):
                with self.assertRaises(InvalidValue):
                    once(sides, thing)
                with self.assertRaises(InvalidValue):
                    order_matters(sides, thing)


class OrderMattersTest(unittest.TestCase):

    def test_values(self):
        for sides, value, answer in (
                ([TENS, HUNDREDS], 0, 45), ([TENS, HUNDREDS], 45, 45), ([TENS, HUNDREDS], 49, 49),
                ([TENS, HUNDREDS], 50, 145), ([TENS], 0, None), ([(0, 3, "half_up"), (0, 9, "half_up")], 0, None),
                ([TENS] * 4, 7, None), ([TENS, TENS, HUNDREDS], 50, 145), ([(0, 1, "up"), (3, 1, "down")], 0, None),
                ([TENS, HUNDREDS], 50 + 10 ** 199, 145 + 10 ** 199), ([TENS, HUNDREDS], -60, -55)):
            self.assertEqual(order_matters(sides, value), answer, (sides, value))
        self.assertEqual(order_matters(value=0, sides=[TENS, HUNDREDS]), 45)

    def test_against_all_values(self):
        kinds = set()
        for sides in some_sides(72, 300, most_step=6):
            for value in (0, 4):
                answer = order_matters_by_search(sides, value)
                self.assertEqual(order_matters(sides, value), answer, (sides, value))
                kinds.add((len(sides), None if answer is None else min(answer - value, 2)))
        self.assertTrue({(many, past) for many in (2, 3, 4) for past in (None, 0, 1)} <= kinds)
        self.assertNotIn((1, 0), kinds)

    def test_only_a_period_later(self):
        sides = [(0, 100, "half_even"), (0, 10, "half_up")]
        for value, answer in ((0, 51), (55, 145), (150, 251), (-50, 51)):
            self.assertEqual(order_matters(sides, value), answer)
        # It matters at one remainder alone.
        sides = [(0, 10, "half_up"), (0, 10, "half_down")]
        for value in range(-20, 40):
            self.assertEqual(order_matters(sides, value), value + (5 - value) % 10)

    def test_the_same_as_exchange_for_two_sides(self):
        source = random.Random(73)
        for _ in range(400):
            first, second = [(source.randint(-40, 40), source.randint(1, 30), source.choice(MODES)) for _ in range(2)]
            if period([first, second]) <= 2000:
                value = source.randint(-99, 99)
                self.assertEqual(order_matters([first, second], value), exchange(first, second, value))

    def test_a_period_of_two_thousand_and_beyond(self):
        for sides, answer in (
                ([(0, 2000, "up")], None), ([(0, 1000, "half_even")] * 4, None),
                ([(0, 2000, "half_up"), (0, 2000, "half_down")], 1000),
                ([(0, 1000, "half_even"), (0, 1000, "half_down")], 1500),
                ([(0, 16, "down"), (0, 125, "down")], order_matters_by_search([(0, 16, "down"), (0, 125, "down")], 0))):
            self.assertEqual(period(sides), 2000)
            self.assertEqual(order_matters(sides, 0), answer)
        for sides in ([(0, 2001, "up")], [(0, 1001, "half_even")], [(0, 1, "up"), (0, 2001, "down")],
                      [(0, 3, "up"), (0, 667, "down")], [(0, 16, "half_even"), (0, 125, "down")],
                      [(0, HUGE, "up")] * 4, [(0, 10 ** 30, "half_even")]):
            self.assertGreater(period(sides), 2000)
            for value in (0, 10 ** 199):
                with self.assertRaises(TooMany):
                    order_matters(sides, value)


class CalmTest(unittest.TestCase):

    def test_lists(self):
        threes = [(0, 3, "half_up"), (1, 3, "half_up"), (2, 3, "half_up")]
        for sides, answer in (
                ([(0, 10, "up")], []), ([(0, 10, "half_even")], []), ([(0, 10, "up"), (3, 10, "down")], []),
                ([(0, 10, "up"), (5, 10, "up")], [0]), ([(0, 10, "down"), (5, 10, "down")], [0]),
                ([(0, 10, "up"), (0, 10, "up")], []), ([(0, 1, "up"), (0, 10, "up"), (5, 10, "up")], [1]),
                ([(0, 10, "up"), (5, 10, "up"), (0, 10, "up")], [1]), (threes, [0]),
                (threes + [(0, 3, "half_up")], [1]),
                ([(number, 10, "up") for number in range(4)], [0, 1, 2]),
                ([(0, 10, "up"), (5, 10, "up"), (0, 10, "up"), (5, 10, "up")], [0, 2]),
                ([(0, 10, "up"), (0, 10, "down"), (5, 10, "up"), (5, 10, "down")], [0, 1]),
                ([(0, 10, "up"), (0, 10, "down"), (5, 10, "up")], [0]),
                ([(0, 10, "up"), (5, 10, "up"), (7, 20, "up")], [0, 1]),
                ([(0, 10, "up"), (5, 10, "up"), (7, 20, "up"), (0, 10, "up")], [1, 2])):
            self.assertEqual(calm(sides), answer, sides)
        self.assertEqual(calm(sides=[(0, 10, "up"), (5, 10, "up")]), [0])

    def test_against_all_hand_overs(self):
        source = random.Random(74)
        kinds = set()
        rows = some_sides(75, 200, most_step=5)
        for _ in range(250):
            # Equal steps creep more often.
            step = source.randint(2, 5)
            rows.append([(source.randint(0, 9), step, source.choice(MODES)) for _ in range(4)])
        for sides in rows:
            answer = calm_by_search(sides)
            self.assertEqual(calm(sides), answer, sides)
            ends = reach(sides, 0)
            kinds.add((len(answer), ends[0] is None, ends[1] is None))
            self.assertEqual(answer == [], None not in ends)
        self.assertTrue({0, 1, 2} <= {kind[0] for kind in kinds})
        self.assertEqual({kind[1:] for kind in kinds}, {(False, False), (False, True), (True, False), (True, True)})

    def test_thirty_digits(self):
        up, other = (0, 10 ** 30, "up"), (1, 10 ** 29, "up")
        for sides, answer in (
                ([up], []), ([up, other], [0]), ([up, (0, 10 ** 29, "up")], []), ([(0, HUGE, "up"), up], []),
                ([(7, HUGE, "up"), (9, HUGE_OTHER, "up"), (7, HUGE, "down"), (9, HUGE_OTHER, "down")], []),
                ([up, (0, HUGE, "down"), other, (5, HUGE, "down")], [0, 1])):
            self.assertEqual(calm(sides), answer, sides)

    def test_too_many_as_reach(self):
        for sides in (
                [(0, 100001, "up")] * 3, [(0, 100001, "down")] * 3, [(0, 50001, "half_even")] * 3,
                [(0, 317, "up"), (0, 317, "half_up"), (5, 331, "up"), (0, 3, "down")],
                [(0, HUGE, "down"), (0, HUGE, "down"), (1, HUGE, "half_down"), (0, 2, "up")]):
            with self.assertRaises(TooMany):
                reach(sides, 0)
            with self.assertRaises(TooMany, msg=sides):
                calm(sides)
        for sides in ([(0, 100000, "up")] * 3, [(0, 100001, "up")] * 2 + [(0, 100003, "down")] * 2,
                      [(0, 100001, "up")] * 2 + [(0, 2, "half_down"), (0, HUGE, "down")]):
            self.assertEqual(calm(sides), [])

    def test_errors_and_new_lists(self):
        for thing in wrong_lists_of_sides():
            kept = copy.deepcopy(thing)
            with self.assertRaises(InvalidSides, msg=repr(thing)[:80]):
                calm(thing)
            self.assertEqual(thing, kept)
        sides = [(0, 10, "up"), (5, 10, "up")]
        calm(sides).append(7)
        calm(sides[:1]).append(7)
        self.assertEqual((sides, calm(sides), calm(sides[:1])), ([(0, 10, "up"), (5, 10, "up")], [0], []))


if __name__ == "__main__":
    unittest.main()
