"""The names, arguments and places of the interface, and the examples of the document."""

import doctest
import importlib
import inspect
import pathlib
import unittest

README = pathlib.Path(__file__).resolve().parent.parent / "README.md"

INTERFACE = {
    "handedtext.sides": {
        "check_side": "(side)",
        "figure_of": "(side, value)",
        "handed": "(side, value)",
        "stands": "(side, value)",
        "span": "(side, figure)",
        "back": "(side, value)",
        "mirror": "(side)",
        "form": "(side)",
    },
    "handedtext.figures": {
        "text_of": "(figure, places, *, sign=False, group=False, width=0)",
        "read_text": "(text)",
    },
    "handedtext.units": {
        "scaled": "(units)",
    },
    "handedtext.orders": {
        "reach": "(sides, value)",
        "climb": "(sides, value)",
        "greatest_rise": "(sides)",
        "unneeded": "(sides)",
    },
    "handedtext.ways": {
        "along": "(sides, numbers, value)",
        "before": "(sides, value)",
        "route": "(sides, start, value)",
    },
    "handedtext.exchange": {
        "exchange": "(first, second, value)",
    },
    "handedtext.logs": {
        "fault": "(sides, seen)",
        "hops": "(sides, seen)",
    },
    "handedtext.backs": {
        "settled": "(first, second, value)",
        "pace": "(first, second)",
    },
    "handedtext.limits": {
        "within": "(sides, value, many)",
        "efforts": "(sides, value)",
        "meeting": "(sides, one, other)",
        "fewest_places": "(sides, side)",
    },
    "handedtext.once": {
        "once": "(sides, value)",
        "order_matters": "(sides, value)",
        "calm": "(sides)",
    },
    "handedtext.papers": {
        "paper_text": "(entries)",
        "read_paper": "(text)",
        "log_of": "(entries, name)",
        "text_at": "(entries, name, value)",
    },
    "handedtext.desk": {
        "try_all": "(trace, deeds)",
    },
    "handedtext.rests": {
        "outcomes": "(sides, value)",
        "rests": "(sides, value)",
    },
}

CLASSES = {
    "handedtext.values": {
        "Side": {
            "__init__": "(self, data)", "data": None, "__call__": "(self, value)", "__getitem__": "(self, figure)",
            "__contains__": "(self, value)", "__eq__": "(self, other)", "__neg__": "(self)", "__or__": "(self, other)",
        },
        "Sides": {
            "__init__": "(self, sides)", "sides": None, "__call__": "(self, value)", "__getitem__": "(self, value)",
            "lead_to": "(self, start, value)", "__contains__": "(self, side)", "__len__": "(self)",
            "__eq__": "(self, other)", "__neg__": "(self)", "__or__": "(self, other)", "__sub__": "(self, other)",
        },
    },
    "handedtext.desk": {
        "Trace": {
            "__init__": "(self, sides)", "see": "(self, value)", "slip": "(self, number, value)",
            "drop": "(self, number)", "undo": "(self)", "redo": "(self)", "starts": "(self)",
            "allows": "(self, value)", "trial": "(self)", "__getitem__": "(self, number)", "__len__": "(self)",
            "__contains__": "(self, value)",
        },
    },
}

SIDES = [(0, 10, "up"), (3, 10, "down")]
ENTRIES = [
    ("side", "till", (0, 5, "half_up"), 2), ("set", "shop", ("till",)), ("log", "may", "shop", (("till", "0.17"),)),
]

# For each function something to pass for each argument; no two of them may stand in the place of one another.
CALLS = {
    "check_side": [(0, 10, "up")], "figure_of": [(0, 10, "up"), 25], "handed": [(0, 10, "up"), 25],
    "stands": [(0, 10, "up"), 30], "span": [(0, 10, "up"), 2], "back": [(0, 10, "up"), 25],
    "mirror": [(3, 10, "up")], "form": [(13, 5, "half_even")], "text_of": [-1234567, 2, True, True, 20],
    "read_text": ["-0.05"], "scaled": [[((0, 1), (1, 100), "half_up"), ((0, 1), (1, 119), "half_up")]],
    "reach": [SIDES, 7], "climb": [SIDES, 7], "greatest_rise": [SIDES], "unneeded": [SIDES],
    "along": [SIDES, [0, 1], 7], "before": [SIDES, 10], "route": [SIDES, 7, 3],
    "exchange": [(0, 10, "half_even"), (0, 100, "half_up"), 0], "fault": [SIDES, [7, 0]], "hops": [SIDES, [7, 10, 0]],
    "settled": [(0, 10, "up"), (0, 4, "up"), 1], "pace": [(0, 4, "down"), (1, 6, "down")], "within": [SIDES, 7, 1],
    "efforts": [SIDES, 7], "meeting": [SIDES, 4, 11], "fewest_places": [[(0, 10, "half_up")], (0, 100, "half_up")],
    "once": [SIDES, 7], "order_matters": [SIDES, 7], "calm": [[(0, 10, "up"), (5, 10, "up")]],
    "paper_text": [ENTRIES], "read_paper": ["side till 5 half_up places 2"], "log_of": [ENTRIES, "may"],
    "text_at": [ENTRIES, "till", 87], "outcomes": [SIDES, 7], "rests": [SIDES, 7],
}


def names_in(signature):
    """Return the names of the arguments in a signature."""
    parts = [part.strip().split("=")[0] for part in signature.strip("()").split(",")]
    return [part for part in parts if part not in ("", "*", "self")]


class InterfaceTest(unittest.TestCase):

    def test_each_function_has_its_arguments_and_stands_in_its_file(self):
        for file, functions in INTERFACE.items():
            module = importlib.import_module(file)
            for name, signature in functions.items():
                function = getattr(module, name)
                self.assertTrue(inspect.isfunction(function), name)
                self.assertEqual(str(inspect.signature(function)), signature, name)
                self.assertEqual(function.__module__, file, name)


    def test_each_class_has_its_methods_of_its_own(self):
        for file, classes in CLASSES.items():
            module = importlib.import_module(file)
            for name, methods in classes.items():
                kind = getattr(module, name)
                self.assertEqual((kind.__module__, kind.__name__), (file, name))
                for method, signature in methods.items():
                    self.assertIn(method, vars(kind), name)
                    if signature is None:
                        self.assertIsInstance(vars(kind)[method], property)
                    else:
                        self.assertEqual(str(inspect.signature(vars(kind)[method])), signature, (name, method))

    def test_functions_are_called_with_names_in_another_order(self):
        for file, functions in INTERFACE.items():
            module = importlib.import_module(file)
            for name, signature in functions.items():
                if name == "try_all":
                    continue
                row = CALLS[name]
                named = list(zip(names_in(signature), row))
                self.assertEqual(len(named), len(names_in(signature)))
                answer = getattr(module, name)(**dict(reversed(named)))
                bare = row[:2] if name == "text_of" else row
                self.assertEqual(answer, getattr(module, name)(*bare, **dict(named[len(bare):])), name)

    def test_classes_and_methods_are_called_with_names_in_another_order(self):
        from handedtext.desk import Trace, try_all
        from handedtext.values import Side, Sides
        self.assertEqual(Side(data=(0, 10, "up"))(value=7), 10)
        sides = Sides(sides=SIDES)
        self.assertEqual((sides(value=7), sides.lead_to(value=3, start=7)), ((3, 10), [1]))
        trace = Trace(sides=SIDES)
        trace.see(value=10)
        trace.slip(value=7, number=0)
        self.assertEqual((trace[0], trace[1], trace.allows(value=3)), (7, 10, True))
        trace.drop(number=0)
        try_all(deeds=[("see", 3)], trace=trace)
        self.assertEqual((trace[0], trace[1]), (10, 3))

    def test_errors_are_called_with_names_in_another_order(self):
        from handedtext.errors import InvalidLine, InvalidText
        error = InvalidLine(reason="name", line=7)
        self.assertEqual((error.line, error.reason, InvalidText(at=3).at), (7, "name", 3))


class ExamplesTest(unittest.TestCase):

    def test_figures(self):
        from handedtext.figures import read_text, text_of
        self.assertEqual(
            [text_of(-5, 2), text_of(1234567, 2, group=True), read_text(' +1,234.50')],
            ['-0.05', '12,345.67', (123450, 2)])

    def test_sides(self):
        from handedtext.sides import form, handed, span
        side = (0, 10, 'half_even')
        self.assertEqual(
            [handed(side, 25), handed(side, 15), span(side, 0), form((-3, 10, 'half_even'))],
            [20, 20, (-5, 5), (17, 10, 'half_even')])

    def test_units(self):
        from handedtext.units import scaled
        self.assertEqual(
            scaled([((0, 1), (1, 100), 'half_up'), ((0, 1), (1, 119), 'half_up')]),
            (11900, [(0, 119, 'half_up'), (0, 100, 'half_up')]))

    def test_ways(self):
        from handedtext.ways import along, before, route
        sides = [(0, 10, 'up'), (3, 10, 'down')]
        self.assertEqual(
            [along(sides, [0, 1], 7), before(sides, 10), route(sides, 7, 3), route(sides, 7, 0)],
            [[10, 3], (1, 12), [1], None])

    def test_orders(self):
        from handedtext.orders import climb, greatest_rise, reach, unneeded
        sides = [(0, 10, 'up'), (5, 15, 'up')]
        self.assertEqual(
            [reach(sides, 1), climb(sides, 1), greatest_rise(sides), unneeded([(0, 10, 'up'), (0, 5, 'up')])],
            [(1, 20), ('end', [0, 1]), (29, 21), [1]])

    def test_orders_without_an_end(self):
        from handedtext.orders import climb, reach
        three = [(0, 3, 'half_up'), (1, 3, 'half_up'), (2, 3, 'half_up')]
        self.assertEqual(
            [reach(three, 0), climb(three, 0), reach([(0, 10, 'up'), (5, 10, 'up')], 1)],
            [(None, None), ('endless', [1, 2, 0]), (1, None)])

    def test_exchange(self):
        from handedtext.exchange import exchange
        tens, hundreds = (0, 10, 'half_up'), (0, 100, 'half_up')
        self.assertEqual(
            [exchange(tens, hundreds, 0), exchange((0, 3, 'half_up'), (0, 9, 'half_up'), 0)],
            [45, None])

    def test_logs(self):
        from handedtext.logs import fault, hops
        sides = [(0, 10, 'up'), (3, 10, 'down')]
        self.assertEqual(
            [fault(sides, [7, 10, 3, 10, 13, 20]), hops(sides, [7, 10, 3, 10])],
            [4, [1, 1, 1]])

    def test_backs(self):
        from handedtext.backs import pace, settled
        self.assertEqual(
            [settled((0, 10, 'up'), (0, 4, 'up'), 1), settled((0, 4, 'down'), (1, 6, 'down'), 0),
             pace((0, 4, 'down'), (1, 6, 'down'))],
            [('settles', 20, 1), ('creeps', -6), -6])

    def test_limits(self):
        from handedtext.limits import fewest_places, meeting, within
        sides = [(0, 10, 'up'), (3, 10, 'down')]
        self.assertEqual(
            [within(sides, 7, 1), within(sides, 7, 2), meeting(sides, 4, 11),
             fewest_places([(0, 10, 'half_up')], (0, 100, 'half_up'))],
            [(3, 10), (3, 10), [1], 1])

    def test_values(self):
        from handedtext.values import Side
        sides = Side((0, 10, 'up')) | Side((3, 10, 'down'))
        self.assertEqual(
            [sides(7), sides[10], Side((20, 10, 'up')) in sides, len(sides - Side((0, 10, 'up')))],
            [(3, 10), (1, 12), True, 1])

    def test_papers(self):
        from handedtext.papers import log_of, paper_text, read_paper, text_at
        text = 'side till 5 half_up places 2\nside book 100 half_even places 0 at 50\nset shop till book\n'
        text = text + 'log may shop\ntill 0.17\nbook 3\nend\n'
        entries = read_paper(text)
        self.assertEqual(
            [log_of(entries, 'may'), text_at(entries, 'till', 87), paper_text(entries) == text],
            [([(0, 5, 'half_up'), (50, 100, 'half_even')], [85, 350]), '0.17', True])

    def test_desk(self):
        from handedtext.desk import Trace, try_all
        trace = Trace([(0, 10, 'up'), (3, 10, 'down')])
        self.assertIsNone(try_all(trace, [('see', 10), ('see', 3), ('slip', 0, 7)]))
        self.assertEqual(
            [len(trace), trace[0], trace.starts(), trace.allows(20)],
            [3, 7, (7, 7), False])

    def test_readme(self):
        failed, tried = doctest.testfile(str(README), module_relative=False, verbose=False)
        self.assertEqual(failed, 0)
        self.assertGreater(tried, 0)


if __name__ == "__main__":
    unittest.main()
