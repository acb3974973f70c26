"""Hand-overs one behind the other ([8]), and from where a value can have come ([10])."""

import copy
import random
import unittest

from handedtext.errors import InvalidNumbers, InvalidValue, TooMany
from handedtext.sides import handed
from handedtext.ways import along, before, route
from oracle import before_by_search, before_is_too_many, hops_by_search, period, routes_by_search, some_sides
from samples import HUGE, HUGE_OTHER, NO_INTEGERS, SIDE, SLOW, mirrored

SIDES = [(0, 10, "up"), (3, 10, "down")]

# The value that is less by the common period comes to 1 by 1,000 hand-overs, to 0 by 1,001.
ENDLESS = [(0, 2, "up"), (1, 2, "up"), (1, 3, "up"), (0, 1500, "down")]


def turned(ends):
    """Return two ends, seen in the mirror."""
    least, greatest = ends
    return (None if greatest is None else -greatest), (None if least is None else -least)


class AlongTest(unittest.TestCase):

    def test_values(self):
        self.assertEqual(along(SIDES, [], 7), [])
        self.assertEqual(along(SIDES, [0], 7), [10])
        self.assertEqual(along(SIDES, [0, 1], 7), [10, 3])
        self.assertEqual(along(SIDES, [1, 1, 0, 0, 1], 7), [3, 3, 10, 10, 3])
        self.assertEqual(along(value=7, numbers=[1, 0], sides=SIDES), [3, 10])
        self.assertEqual(along([(5, HUGE, "up")], [0], 10 ** 199), [handed((5, HUGE, "up"), 10 ** 199)])

    def test_against_handed(self):
        source = random.Random(9)
        for sides in some_sides(10, 100, most_step=50):
            numbers = [source.randrange(len(sides)) for _ in range(30)]
            here = source.randint(-200, 200)
            values = along(sides, numbers, here)
            self.assertEqual(len(values), 30)
            for number, value in zip(numbers, values):
                here = handed(sides[number], here)
                self.assertEqual(value, here)

    def test_a_thousand_numbers_and_one_more(self):
        self.assertEqual(along(SIDES, [0, 1] * 500, 7), [10, 3] * 500)
        for many in (1001, 1002, 1100):
            with self.assertRaises(InvalidNumbers):
                along(SIDES, [0] * many, 7)

    def test_no_numbers(self):
        for thing in list(NO_INTEGERS) + [0, 1, (0, 1), (), {0: 1}, [[0]], [(0,)]]:
            if thing in ([], [0], [0, 1]):
                continue
            kept = copy.deepcopy(thing)
            for value in (7, None):
                with self.assertRaises(InvalidNumbers, msg=repr(thing)[:80]):
                    along(SIDES, thing, value)
            self.assertEqual(thing, kept)

    def test_no_number_of_a_side(self):
        for thing in list(NO_INTEGERS) + [-1, 2, 3, 10 ** 199, -10 ** 199]:
            for numbers in ([thing], [0, thing], [thing, 0], [0, 1, 0, 1, thing]):
                with self.assertRaises(InvalidNumbers, msg=repr(thing)[:80]):
                    along(SIDES, numbers, 7)
        for many in range(1, 5):
            self.assertEqual(len(along([SIDE] * many, list(range(many)), 7)), many)
            with self.assertRaises(InvalidNumbers):
                along([SIDE] * many, [many], 7)

    def test_no_value(self):
        for thing in NO_INTEGERS:
            for numbers in ([], [0, 1]):
                with self.assertRaises(InvalidValue):
                    along(SIDES, numbers, thing)

    def test_arguments_and_answers_are_not_shared(self):
        sides, numbers = list(SIDES), [0, 1]
        first = along(sides, numbers, 7)
        first.append(99)
        self.assertEqual((sides, numbers), (SIDES, [0, 1]))
        self.assertEqual(along(sides, numbers, 7), [10, 3])
        self.assertIsNot(along(sides, [], 7), along(sides, [], 7))


class BeforeTest(unittest.TestCase):

    def test_ends(self):
        for sides, value, answer in (
                ([(0, 10, "up")], 10, (1, 10)), ([(0, 10, "up")], 9, (9, 9)), ([(0, 10, "down")], 10, (10, 19)),
                ([(0, 10, "half_even")], 20, (15, 25)), ([(0, 10, "half_even")], 10, (6, 14)),
                (SIDES, 10, (1, 12)), (SIDES, 3, (1, 12)), (SIDES, 5, (5, 5)), ([(0, 1, "up")], 5, (5, 5)),
                ([(0, 10, "up"), (5, 10, "up")], 10, (None, 10)), ([(0, 10, "up"), (5, 10, "up")], 9, (9, 9)),
                ([(0, 10, "down"), (5, 10, "down")], 10, (10, None)),
                ([(0, 3, "half_up"), (1, 3, "half_up"), (2, 3, "half_up")], 0, (None, None)),
                ([(0, 10, "up"), (0, 20, "up")], 20, (1, 20)), ([(0, 10, "up"), (0, 20, "up")], 10, (1, 10))):
            self.assertEqual(before(sides, value), answer, (sides, value))
        self.assertEqual(before(value=10, sides=SIDES), (1, 12))

    def test_against_all_hand_overs(self):
        kinds = set()
        for sides in some_sides(11, 300, most_step=6):
            for value in (-2, 0, 9):
                answer = before_by_search(sides, value)
                self.assertEqual(before(sides, value), answer, (sides, value))
                kinds.add((answer[0] is None, answer[1] is None))
        self.assertEqual(len(kinds), 4)

    def test_all_values_between_the_ends_and_no_others(self):
        for sides in some_sides(12, 150, most_step=6):
            least, greatest = before(sides, 5)
            many = period(sides)
            hops = hops_by_search(sides, 5)
            low = 5 - many if least is None else least
            high = 5 + many if greatest is None else greatest
            self.assertEqual([value for value in range(5 - many, 6 + many) if value in hops],
                             list(range(low, high + 1)), sides)

    def test_thirty_digits(self):
        for sides, value, answer in (
                ([(10 ** 40, 10 ** 30, "up")], 0, (1 - 10 ** 30, 0)),
                ([(10 ** 40, HUGE, "up")], 10 ** 40, (10 ** 40 - HUGE + 1, 10 ** 40)),
                ([(0, HUGE, "half_up"), (1, HUGE_OTHER, "down")], 0, (-(HUGE - 1) // 2, HUGE_OTHER)),
                ([(0, 10 ** 30, "half_even"), (5 * 10 ** 29, 10 ** 30, "half_even")], 0,
                 (1 - 10 ** 30, 15 * 10 ** 29 - 1)),
                ([(0, 10 ** 30, "up"), (5, 10 ** 30, "up")], 5, (None, 5)),
                ([(0, 10 ** 30, "down"), (5, 10 ** 30, "down")], 5, (5, None))):
            self.assertEqual(before(sides, value), answer, (sides, value))

    def test_values_greater_by_a_period_are_told_alike(self):
        for sides in some_sides(17, 150, most_step=9) + [SLOW, [(10 ** 40, HUGE, "up"), (-7, 10 ** 30, "half_even")]]:
            many = period(sides)
            for value in (25385, 25389):
                ends = before(sides, value)
                for rounds in (1, -3, 10 ** 90, -10 ** 90):
                    told = tuple(None if end is None else end + rounds * many for end in ends)
                    self.assertEqual(before(sides, value + rounds * many), told)
                    self.assertEqual(route(sides, value - 2 + rounds * many, value + rounds * many),
                                     route(sides, value - 2, value))

    def test_thousand_hand_overs_and_one_more(self):
        for sides, value, many in ((SLOW, 25389, 1000), (SLOW, 25420, 1001)):
            hops = hops_by_search(sides, value)
            self.assertEqual(max(hops.values()), many)
            self.assertEqual((min(hops), max(hops)), (1, value))
            self.assertEqual(before_is_too_many(hops, value, 31 * 37 * 41), many > 1000)
        self.assertEqual(before(SLOW, 25389), (1, 25389))
        self.assertEqual(before(mirrored(SLOW), -25389), (-25389, -1))
        for sides, value in ((SLOW, 25420), (mirrored(SLOW), -25420), (SLOW, 31 * 37 * 41)):
            with self.assertRaises(TooMany):
                before(sides, value)

    def test_thousand_hand_overs_to_the_end_of_the_window_and_one_more(self):
        for value, many in ((1, 1000), (0, 1001)):
            hops = hops_by_search(ENDLESS, value)
            self.assertEqual(max(told for start, told in hops.items() if abs(start - value) <= 1500), many)
            self.assertIn(value - 1500, hops)
            self.assertEqual(before_is_too_many(hops, value, 1500), many > 1000)
        self.assertEqual(before(ENDLESS, 1), (None, 1499))
        self.assertEqual(before(mirrored(ENDLESS), -1), (-1499, None))
        for sides in (ENDLESS, mirrored(ENDLESS)):
            with self.assertRaises(TooMany):
                before(sides, 0)

    def test_too_many_with_thirty_digits(self):
        sides = [(0, HUGE, "up"), (1, HUGE_OTHER, "up")]
        self.assertEqual(before(sides, 2), (2, 2))
        for value in (0, 1, 10 ** 45 - 10 ** 45 % HUGE):
            with self.assertRaises(TooMany):
                before(sides, value)
        # There is no end, but it is too far away.
        with self.assertRaises(TooMany):
            before([(0, 10, "up"), (5, 10, "up"), (0, HUGE, "down")], 0)

    def test_no_value(self):
        for thing in NO_INTEGERS:
            for sides in (SIDES, SLOW, ENDLESS):
                with self.assertRaises(InvalidValue):
                    before(sides, thing)

    def test_mirrors(self):
        for sides in some_sides(13, 200, most_step=30):
            try:
                answer = before(sides, 12)
            except TooMany:
                with self.assertRaises(TooMany):
                    before(mirrored(sides), -12)
            else:
                self.assertEqual(before(mirrored(sides), -12), turned(answer))


class RouteTest(unittest.TestCase):

    def test_ways(self):
        for sides, start, value, answer in (
                (SIDES, 7, 3, [1]), (SIDES, 7, 0, None), (SIDES, 7, 7, []), (SIDES, 10, 10, []), (SIDES, 5, 10, [0]),
                (SIDES, 10, 3, [1]), (SIDES, 13, 3, None), (SIDES, 12, 10, [1, 0]), (SIDES, 1, 3, [0, 1]),
                ([(0, 10, "up"), (0, 10, "up")], 5, 10, [0]), ([(0, 10, "down"), (0, 10, "up")], 5, 10, [1]),
                ([(0, 10, "up"), (5, 10, "up")], 1, 20, [0, 1, 0]), ([(0, 10, "up"), (5, 10, "up")], 21, 20, None),
                ([(0, 5, "up"), (0, 10, "up"), (0, 20, "up")], 1, 20, [2]),
                ([(0, 5, "up"), (0, 10, "up"), (0, 20, "up")], 1, 10, [1])):
            self.assertEqual(route(sides, start, value), answer, (sides, start, value))
        self.assertEqual(route(value=3, start=7, sides=SIDES), [1])

    def test_against_all_hand_overs(self):
        lengths = set()
        for sides in some_sides(14, 200, most_step=7):
            start = 3
            many = period(sides)
            routes = routes_by_search(sides, start, 2 * many + 20)
            for value in range(start - min(many, 40), start + min(many, 40) + 1):
                self.assertEqual(route(sides, start, value), routes.get(value), (sides, start, value))
                lengths.add(len(routes.get(value, ())))
        self.assertGreater(max(lengths), 6)

    def test_thousand_hand_overs_and_one_more(self):
        for sides, start, value in ((SLOW, 1, 25389), (mirrored(SLOW), -1, -25389)):
            numbers = route(sides, start, value)
            self.assertEqual(len(numbers), 1000)
            self.assertEqual(numbers, routes_by_search(sides, start, 26000)[value])
            self.assertEqual(along(sides, numbers, start)[-1], value)
        for sides, start, value in ((SLOW, 1, 25420), (mirrored(SLOW), -1, -25420)):
            self.assertEqual(len(routes_by_search(sides, start, 26000)[value]), 1001)
            with self.assertRaises(TooMany):
                route(sides, start, value)

    def test_too_many_only_if_there_is_no_short_way(self):
        # before raises TooMany for 25420: what comes there by few hand-overs is told all the same.
        for start, many in ((25420, 0), (25400, 1), (25380, 1), (25379, 2)):
            self.assertEqual(len(route(SLOW, start, 25420)), many)
        for start in (1, 0, -1, 25421, 10 ** 199, -10 ** 199):
            with self.assertRaises(TooMany):
                route(SLOW, start, 25420)
        # before raises none for 25389.
        for start in (0, -1, 25390, 10 ** 199, -10 ** 199):
            self.assertIsNone(route(SLOW, start, 25389))

    def test_too_many_where_there_is_no_end(self):
        sides = [(0, 10, "up"), (5, 10, "up")]
        self.assertEqual(before(sides, 0), (None, 0))
        self.assertEqual(route(sides, -5004, 0), [1, 0] * 500)
        self.assertEqual(len(route(sides, -5000, 0)), 1000)
        for start in (-5005, -5006, -10 ** 199):
            with self.assertRaises(TooMany):
                route(sides, start, 0)
        for start in (1, 5, 10 ** 199):
            self.assertIsNone(route(sides, start, 0))
        turned_sides = mirrored(sides)
        self.assertEqual(route(turned_sides, 5004, 0), [1, 0] * 500)
        with self.assertRaises(TooMany):
            route(turned_sides, 5005, 0)
        self.assertIsNone(route(turned_sides, -1, 0))

    def test_thirty_digits(self):
        sides = [(10 ** 40, HUGE, "up"), (-10 ** 40, HUGE_OTHER, "half_even")]
        here = 12345
        for many in range(1, 30):
            following = handed(sides[many % 2], here)
            if following != here:
                self.assertEqual(route(sides, here, following), [many % 2])
            here = following
        self.assertEqual(route(sides, 12345, 12345), [])
        self.assertIsNone(route([(0, HUGE, "up")], 1, 0))
        with self.assertRaises(TooMany):
            route([(0, HUGE, "up"), (1, HUGE_OTHER, "up")], 2, 1)

    def test_no_value(self):
        for thing in NO_INTEGERS:
            for sides in (SIDES, SLOW):
                for start, value in ((thing, 0), (0, thing), (thing, thing), (thing, 25420), (1, thing)):
                    with self.assertRaises(InvalidValue):
                        route(sides, start, value)

    def test_new_lists(self):
        sides = list(SIDES)
        route(sides, 1, 3).append(7)
        route(sides, 3, 3).append(7)
        self.assertEqual((sides, route(sides, 1, 3), route(sides, 3, 3)), (SIDES, [0, 1], []))


if __name__ == "__main__":
    unittest.main()
