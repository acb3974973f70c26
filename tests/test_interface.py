"""The names, arguments and places of the interface, and the examples of the document."""

import doctest
import importlib
import inspect
import pathlib
import unittest

README = pathlib.Path(__file__).resolve().parent.parent / "README.md"

INTERFACE = {
    "handedtext.sides": {
        "check_side": "(side)",
        "figure_of": "(side, value)",
        "handed": "(side, value)",
        "stands": "(side, value)",
        "span": "(side, figure)",
        "back": "(side, value)",
        "mirror": "(side)",
        "form": "(side)",
    },
    "handedtext.figures": {
        "text_of": "(figure, places, *, sign=False, group=False, width=0)",
        "read_text": "(text)",
    },
    "handedtext.units": {
        "scaled": "(units)",
    },
    "handedtext.orders": {
        "reach": "(sides, value)",
        "climb": "(sides, value)",
        "greatest_rise": "(sides)",
        "unneeded": "(sides)",
    },
    "handedtext.ways": {
        "along": "(sides, numbers, value)",
        "before": "(sides, value)",
        "route": "(sides, start, value)",
    },
    "handedtext.exchange": {
        "exchange": "(first, second, value)",
    },
    "handedtext.logs": {
        "fault": "(sides, seen)",
        "hops": "(sides, seen)",
    },
    "handedtext.backs": {
        "settled": "(first, second, value)",
        "pace": "(first, second)",
    },
    "handedtext.limits": {
        "within": "(sides, value, many)",
        "efforts": "(sides, value)",
        "meeting": "(sides, one, other)",
        "fewest_places": "(sides, side)",
    },
    "handedtext.once": {
        "once": "(sides, value)",
        "order_matters": "(sides, value)",
        "calm": "(sides)",
    },
}


class InterfaceTest(unittest.TestCase):

    def test_each_function_has_its_arguments_and_stands_in_its_file(self):
        for file, functions in INTERFACE.items():
            module = importlib.import_module(file)
            for name, signature in functions.items():
                function = getattr(module, name)
                self.assertTrue(inspect.isfunction(function), name)
                self.assertEqual(str(inspect.signature(function)), signature, name)
                self.assertEqual(function.__module__, file, name)


class ExamplesTest(unittest.TestCase):

    def test_figures(self):
        from handedtext.figures import read_text, text_of
        self.assertEqual(
            [text_of(-5, 2), text_of(1234567, 2, group=True), read_text(' +1,234.50')],
            ['-0.05', '12,345.67', (123450, 2)])

    def test_sides(self):
        from handedtext.sides import form, handed, span
        side = (0, 10, 'half_even')
        self.assertEqual(
            [handed(side, 25), handed(side, 15), span(side, 0), form((-3, 10, 'half_even'))],
            [20, 20, (-5, 5), (17, 10, 'half_even')])

    def test_units(self):
        from handedtext.units import scaled
        self.assertEqual(
            scaled([((0, 1), (1, 100), 'half_up'), ((0, 1), (1, 119), 'half_up')]),
            (11900, [(0, 119, 'half_up'), (0, 100, 'half_up')]))

    def test_ways(self):
        from handedtext.ways import along, before, route
        sides = [(0, 10, 'up'), (3, 10, 'down')]
        self.assertEqual(
            [along(sides, [0, 1], 7), before(sides, 10), route(sides, 7, 3), route(sides, 7, 0)],
            [[10, 3], (1, 12), [1], None])

    def test_orders(self):
        from handedtext.orders import climb, greatest_rise, reach, unneeded
        sides = [(0, 10, 'up'), (5, 15, 'up')]
        self.assertEqual(
            [reach(sides, 1), climb(sides, 1), greatest_rise(sides), unneeded([(0, 10, 'up'), (0, 5, 'up')])],
            [(1, 20), ('end', [0, 1]), (29, 21), [1]])

    def test_orders_without_an_end(self):
        from handedtext.orders import climb, reach
        three = [(0, 3, 'half_up'), (1, 3, 'half_up'), (2, 3, 'half_up')]
        self.assertEqual(
            [reach(three, 0), climb(three, 0), reach([(0, 10, 'up'), (5, 10, 'up')], 1)],
            [(None, None), ('endless', [1, 2, 0]), (1, None)])

    def test_exchange(self):
        from handedtext.exchange import exchange
        tens, hundreds = (0, 10, 'half_up'), (0, 100, 'half_up')
        self.assertEqual(
            [exchange(tens, hundreds, 0), exchange((0, 3, 'half_up'), (0, 9, 'half_up'), 0)],
            [45, None])

    def test_logs(self):
        from handedtext.logs import fault, hops
        sides = [(0, 10, 'up'), (3, 10, 'down')]
        self.assertEqual(
            [fault(sides, [7, 10, 3, 10, 13, 20]), hops(sides, [7, 10, 3, 10])],
            [4, [1, 1, 1]])

    def test_backs(self):
        from handedtext.backs import pace, settled
        self.assertEqual(
            [settled((0, 10, 'up'), (0, 4, 'up'), 1), settled((0, 4, 'down'), (1, 6, 'down'), 0),
             pace((0, 4, 'down'), (1, 6, 'down'))],
            [('settles', 20, 1), ('creeps', -6), -6])

    def test_limits(self):
        from handedtext.limits import fewest_places, meeting, within
        sides = [(0, 10, 'up'), (3, 10, 'down')]
        self.assertEqual(
            [within(sides, 7, 1), within(sides, 7, 2), meeting(sides, 4, 11),
             fewest_places([(0, 10, 'half_up')], (0, 100, 'half_up'))],
            [(3, 10), (3, 10), [1], 1])

    def test_readme(self):
        failed, tried = doctest.testfile(str(README), module_relative=False, verbose=False)
        self.assertEqual(failed, 0)
        self.assertGreater(tried, 0)


if __name__ == "__main__":
    unittest.main()
