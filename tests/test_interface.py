"""The names, arguments and places of the interface, and the examples of the document."""

import doctest
import importlib
import inspect
import pathlib
import unittest

README = pathlib.Path(__file__).resolve().parent.parent / "README.md"

INTERFACE = {
    "handedtext.sides": {
        "check_side": "(side)",
        "figure_of": "(side, value)",
        "handed": "(side, value)",
        "stands": "(side, value)",
        "span": "(side, figure)",
        "back": "(side, value)",
        "mirror": "(side)",
        "form": "(side)",
    },
    "handedtext.figures": {
        "text_of": "(figure, places, *, sign=False, group=False, width=0)",
        "read_text": "(text)",
    },
}


class InterfaceTest(unittest.TestCase):

    def test_each_function_has_its_arguments_and_stands_in_its_file(self):
        for file, functions in INTERFACE.items():
            module = importlib.import_module(file)
            for name, signature in functions.items():
                function = getattr(module, name)
                self.assertTrue(inspect.isfunction(function), name)
                self.assertEqual(str(inspect.signature(function)), signature, name)
                self.assertEqual(function.__module__, file, name)


class ExamplesTest(unittest.TestCase):

    def test_figures(self):
        from handedtext.figures import read_text, text_of
        self.assertEqual(
            [text_of(-5, 2), text_of(1234567, 2, group=True), read_text(' +1,234.50')],
            ['-0.05', '12,345.67', (123450, 2)])

    def test_sides(self):
        from handedtext.sides import form, handed, span
        side = (0, 10, 'half_even')
        self.assertEqual(
            [handed(side, 25), handed(side, 15), span(side, 0), form((-3, 10, 'half_even'))],
            [20, 20, (-5, 5), (17, 10, 'half_even')])

    def test_readme(self):
        failed, tried = doctest.testfile(str(README), module_relative=False, verbose=False)
        self.assertEqual(failed, 0)
        self.assertGreater(tried, 0)


if __name__ == "__main__":
    unittest.main()
