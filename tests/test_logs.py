"""Logs of seen values ([13])."""

import copy
import random
import unittest

from handedtext.errors import InvalidSeen, InvalidSides, TooMany
from handedtext.logs import fault, hops
from handedtext.sides import handed
from handedtext.ways import before, route
from oracle import hops_by_search, routes_by_search, some_sides
from samples import HUGE, HUGE_OTHER, NO_INTEGERS, SLOW, mirrored, wrong_lists_of_sides

SIDES = [(0, 10, "up"), (3, 10, "down")]


class LogsTest(unittest.TestCase):

    def test_logs(self):
        for seen, number, many in (
                ([], None, []), ([7], None, []), ([7, 7], None, [0]), ([7, 10], None, [1]), ([10, 7], 1, [None]),
                ([7, 10, 3, 10, 13, 20], 4, [1, 1, 1, None, 1]), ([7, 10, 3, 10], None, [1, 1, 1]),
                ([1, 3, 10, 10, 3], None, [2, 1, 0, 1]), ([12, 10, 12], 2, [2, None]), ([13, 3, 13, 3], 1, [None] * 3),
                ([3, 4], 1, [None]), ([4, 4, 4, 4], None, [0, 0, 0])):
            self.assertEqual(fault(SIDES, seen), number, seen)
            self.assertEqual(hops(SIDES, seen), many, seen)
        self.assertEqual(fault(seen=[10, 7], sides=SIDES), 1)
        self.assertEqual(hops(seen=[7, 10], sides=SIDES), [1])

    def test_against_all_hand_overs(self):
        source = random.Random(20)
        faults = set()
        for sides in some_sides(21, 150, most_step=6):
            seen = [source.randint(-9, 9)]
            while len(seen) < 8:
                here = seen[-1]
                for _ in range(source.randint(0, 3)):
                    here = handed(source.choice(sides), here)
                seen.append(here if source.random() < 0.9 else here + source.randint(-3, 3))
            many = [hops_by_search(sides, value).get(start) for start, value in zip(seen, seen[1:])]
            number = many.index(None) + 1 if None in many else None
            self.assertEqual(hops(sides, seen), many, (sides, seen))
            self.assertEqual(fault(sides, seen), number, (sides, seen))
            faults.add(number)
        self.assertEqual(faults, {None, 1, 2, 3, 4, 5, 6, 7})

    def test_none_one_fifty_and_one_more(self):
        for many in (0, 1, 2, 49, 50):
            seen = ([10, 3] * 25)[:many]
            self.assertIsNone(fault(SIDES, seen))
            self.assertEqual(hops(SIDES, seen), [1] * max(0, many - 1))
        self.assertEqual(fault(SIDES, [10, 3] * 24 + [10, 11]), 49)
        for many in (51, 52, 100, 1100):
            for seen in ([10] * many, [10, 11] * many):
                for function in (fault, hops):
                    with self.assertRaises(InvalidSeen):
                        function(SIDES, seen[:many])

    def test_no_seen_values(self):
        for thing in list(NO_INTEGERS) + [0, 1, 10 ** 199, (7, 10), (7,), {7: 10}, [[7]], [(7, 10)], "7"]:
            if thing in ([], [0], [0, 1]):
                continue
            kept = copy.deepcopy(thing)
            for sides in (SIDES, SLOW):
                for function in (fault, hops):
                    with self.assertRaises(InvalidSeen, msg=repr(thing)[:80]):
                        function(sides, thing)
            self.assertEqual(thing, kept)

    def test_no_value_among_seen_ones(self):
        for thing in NO_INTEGERS:
            # The rows ahead would be a fault, and too many.
            for seen in ([thing], [7, thing], [thing, 7], [10, 7, thing], [1, 25420, thing], [0] * 49 + [thing]):
                for function in (fault, hops):
                    with self.assertRaises(InvalidSeen, msg=repr(thing)[:80]):
                        function(SLOW, seen)

    def test_no_sides_go_ahead(self):
        for thing in wrong_lists_of_sides():
            for seen in ([7, 10], None, [None], (7,), [True], [0] * 51):
                for function in (fault, hops):
                    with self.assertRaises(InvalidSides, msg=repr(thing)[:80]):
                        function(thing, seen)

    def test_a_value_that_no_other_one_can_come_to(self):
        self.assertEqual(before(SIDES, 5), (5, 5))
        for start in (4, 6, 3, 10, -10 ** 199, 10 ** 199):
            self.assertEqual(fault(SIDES, [start, 5]), 1)
            self.assertEqual(hops(SIDES, [start, 5]), [None])
        self.assertIsNone(fault(SIDES, [5, 5]))
        self.assertEqual(hops(SIDES, [5, 5]), [0])

    def test_too_many_of_before(self):
        with self.assertRaises(TooMany):
            before(SLOW, 25420)
        for sides, sign in ((SLOW, 1), (mirrored(SLOW), -1)):
            # Though they come there by a few hand-overs, or not at all.
            for start in (25419, 25400, 1, 0, 25421, -10 ** 199):
                with self.assertRaises(TooMany):
                    fault(sides, [sign * start, sign * 25420])
            self.assertIsNone(fault(sides, [sign * 25420, sign * 25420]))
            self.assertIsNone(fault(sides, [sign * 1, sign * 25389]))
            self.assertEqual(fault(sides, [sign * 1, sign * 25389, sign * 25388, sign * 25420]), 2)
            with self.assertRaises(TooMany):
                fault(sides, [sign * 1, sign * 25389, sign * 25389, sign * 25420, sign * 1])

    def test_too_many_of_route(self):
        for sides, sign in ((SLOW, 1), (mirrored(SLOW), -1)):
            for start, many in ((25420, 0), (25419, 1), (25400, 1), (25379, 2)):
                self.assertEqual(hops(sides, [sign * start, sign * 25420]), [many])
            self.assertEqual(hops(sides, [sign * 1, sign * 25389, sign * 25389]), [1000, 0])
            self.assertEqual(hops(sides, [0, sign * 25389]), [None])
            for start in (1, 0, -1, 25421, 10 ** 199):
                for seen in ([start, 25420], [5, 4, start, 25420], [start, 25420, 25420, 1]):
                    with self.assertRaises(TooMany):
                        hops(sides, [sign * value for value in seen])

    def test_too_many_where_there_is_no_end(self):
        sides = [(0, 10, "up"), (5, 10, "up")]
        self.assertEqual(before(sides, 0), (None, 0))
        self.assertIsNone(fault(sides, [-10 ** 199, 0]))
        self.assertEqual(fault(sides, [-10 ** 199, 0, 10 ** 199, 10 ** 199 - 1]), 3)
        self.assertEqual(hops(sides, [-5004, 0, 5, -5]), [1000, 1, None])
        with self.assertRaises(TooMany):
            hops(sides, [-5005, 0])

    def test_as_route_tells(self):
        for sides in some_sides(22, 100, most_step=30):
            routes = routes_by_search(sides, 3, 60)
            for value in range(-20, 26):
                way = route(sides, 3, value)
                self.assertEqual(hops(sides, [3, value]), [None if way is None else len(way)])
                if value in routes:
                    self.assertEqual(len(way), len(routes[value]))

    def test_thirty_digits(self):
        sides = [(10 ** 40, HUGE, "half_down"), (-10 ** 40, HUGE_OTHER, "half_even")]
        seen = [12345]
        for number in range(49):
            seen.append(handed(sides[number % 2], seen[-1]))
        self.assertIsNone(fault(sides, seen))
        self.assertEqual(hops(sides, seen), [int(here != there) for here, there in zip(seen, seen[1:])])
        self.assertEqual(fault(sides, seen[:49] + [seen[49] + 1]), 49)

    def test_new_lists_and_arguments_stay(self):
        sides, seen = list(SIDES), [7, 10, 3]
        hops(sides, seen).append(7)
        hops(sides, []).append(7)
        fault(sides, seen)
        self.assertEqual((sides, seen), (SIDES, [7, 10, 3]))
        self.assertEqual((hops(sides, seen), hops(sides, [])), ([1, 1], []))


if __name__ == "__main__":
    unittest.main()
