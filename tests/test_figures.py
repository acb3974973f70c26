"""Figures as text ([4]) and texts read back ([5])."""

import copy
import itertools
import re
import unittest

from handedtext.errors import InvalidPlaces, InvalidStyle, InvalidText, InvalidValue
from handedtext.figures import read_text, text_of
from samples import NO_INTEGERS

FIGURES = (
    0, 1, -1, 5, -5, 9, 10, -10, 12, 99, 100, -100, 123, 999, -999, 1000, -1000, 1234, 12345, 123456, -123456, 1234567,
    10 ** 9, 10 ** 60 - 1, 10 ** 60, -10 ** 60, 10 ** 199 + 7, -10 ** 200 + 1,
)

NO_WIDTHS = NO_INTEGERS + (-1, 201, 10 ** 199, -10 ** 199)
NO_PLACES = NO_INTEGERS + (-1, 61, 10 ** 199, -10 ** 199)
NO_BOOLEANS = tuple(thing for thing in NO_INTEGERS if not isinstance(thing, bool)) + (0, 1, 2, "True")


class TextOfTest(unittest.TestCase):

    def test_places(self):
        for figure, places, text in (
                (0, 0, "0"), (0, 1, "0.0"), (0, 2, "0.00"), (0, 60, "0." + "0" * 60), (7, 0, "7"), (-7, 0, "-7"),
                (7, 1, "0.7"), (-7, 1, "-0.7"), (7, 3, "0.007"), (-7, 3, "-0.007"), (70, 1, "7.0"), (100, 2, "1.00"),
                (123, 2, "1.23"), (-123, 2, "-1.23"), (123, 3, "0.123"), (123, 4, "0.0123"), (1234567, 0, "1234567"),
                (1234567, 2, "12345.67"), (5, 60, "0." + "0" * 59 + "5"), (-10 ** 60, 60, "-1." + "0" * 60),
                (10 ** 60 - 1, 60, "0." + "9" * 60), (10 ** 199, 0, "1" + "0" * 199)):
            self.assertEqual(text_of(figure, places), text)

    def test_sign(self):
        for figure, places, text in (
                (0, 0, "0"), (0, 2, "0.00"), (1, 0, "+1"), (-1, 0, "-1"), (1, 2, "+0.01"), (-1, 2, "-0.01"),
                (123456, 2, "+1234.56")):
            self.assertEqual(text_of(figure, places, sign=True), text)
            self.assertEqual(text_of(figure, places, sign=False), text.replace("+", ""))

    def test_group(self):
        for figure, places, text in (
                (0, 0, "0"), (1, 0, "1"), (12, 0, "12"), (123, 0, "123"), (1234, 0, "1,234"), (12345, 0, "12,345"),
                (123456, 0, "123,456"), (-123456, 0, "-123,456"), (1234567, 0, "1,234,567"), (-999, 0, "-999"),
                (-1000, 0, "-1,000"), (123456, 3, "123.456"), (1234567, 3, "1,234.567"), (1234567, 7, "0.1234567"),
                (1234567, 6, "1.234567"), (-10 ** 15, 6, "-1,000,000,000.000000"), (10 ** 12, 0, "1,000,000,000,000"),
                (123456, 60, "0." + "123456".zfill(60))):
            self.assertEqual(text_of(figure, places, group=True), text)
            self.assertEqual(text_of(figure, places, group=False), text.replace(",", ""))

    def test_width(self):
        for width, text in ((0, "-1.23"), (1, "-1.23"), (4, "-1.23"), (5, "-1.23"), (6, " -1.23"), (9, "    -1.23")):
            self.assertEqual(text_of(-123, 2, width=width), text)
        self.assertEqual(text_of(5, 0, width=200), " " * 199 + "5")
        self.assertEqual(text_of(10 ** 199, 0, width=200), "1" + "0" * 199)
        self.assertEqual(text_of(10 ** 198, 0, width=200), " 1" + "0" * 198)
        self.assertEqual(text_of(-10 ** 199, 1, width=200), "-1" + "0" * 198 + ".0")

    def test_options_together(self):
        self.assertEqual(text_of(1234567, 2, sign=True, group=True, width=12), "  +12,345.67")
        self.assertEqual(text_of(1234567, 2, width=12, sign=True, group=True), "  +12,345.67")
        self.assertEqual(text_of(figure=-1234567, places=2, sign=True, group=True, width=10), "-12,345.67")

    def test_options_are_told_by_name_alone(self):
        with self.assertRaises(TypeError):
            text_of(1, 2, True)

    def test_against_python(self):
        for figure, places, sign, group, width in itertools.product(
                FIGURES, (0, 1, 2, 3, 59, 60), (False, True), (False, True), (0, 1, 5, 60, 200)):
            whole, rest = divmod(abs(figure), 10 ** places)
            text = f"{whole:,}" if group else str(whole)
            if places:
                text += "." + str(10 ** places + rest)[1:]
            text = ("-" if figure < 0 else "+" if sign and figure > 0 else "") + text
            text = " " * (width - len(text)) + text
            self.assertEqual(text_of(figure, places, sign=sign, group=group, width=width), text)

    def test_invalid_value_goes_ahead_of_all(self):
        for thing in NO_INTEGERS:
            kept = copy.deepcopy(thing)
            for places, sign, width in ((0, False, 0), (61, False, 0), (None, 1, -1), (True, None, True)):
                with self.assertRaises(InvalidValue):
                    text_of(thing, places, sign=sign, width=width)
            self.assertEqual(thing, kept)

    def test_invalid_places_go_ahead_of_the_style(self):
        for thing in NO_PLACES:
            for sign, group, width in ((False, False, 0), (1, False, 0), (False, None, 0), (True, True, 201)):
                with self.assertRaises(InvalidPlaces):
                    text_of(5, thing, sign=sign, group=group, width=width)

    def test_invalid_style(self):
        for thing in NO_BOOLEANS:
            with self.assertRaises(InvalidStyle):
                text_of(5, 0, sign=thing)
            with self.assertRaises(InvalidStyle):
                text_of(5, 60, group=thing)
        for thing in NO_WIDTHS:
            with self.assertRaises(InvalidStyle):
                text_of(5, 0, width=thing)


def is_text(text):
    return re.fullmatch(r" *[-+]?(0|[1-9][0-9]{0,2}(,[0-9]{3})*|[1-9][0-9]{3,})(\.[0-9]{1,60})?", text) is not None


def begins_a_text(text):
    # Three digits are enough to end any text that has begun.
    return any(is_text(text + tail) for tail in ("", "0", "00", "000"))


def first_wrong_place(text):
    for at in range(len(text)):
        if not begins_a_text(text[:at + 1]):
            return at
    return len(text)


class ReadTextTest(unittest.TestCase):

    def check_wrong(self, text, at):
        with self.assertRaises(InvalidText) as caught:
            read_text(text)
        self.assertEqual(caught.exception.at, at, text)

    def check(self, text):
        if not is_text(text):
            self.check_wrong(text, first_wrong_place(text))
            return
        digits = text.replace(",", "").strip()
        places = len(digits.partition(".")[2])
        self.assertEqual(read_text(text), (int(digits.replace(".", "")), places), text)

    def test_what_text_of_writes_is_read_back(self):
        for figure, places, sign, group, width in itertools.product(
                FIGURES, (0, 1, 2, 3, 59, 60), (False, True), (False, True), (0, 9, 200)):
            text = text_of(figure, places, sign=sign, group=group, width=width)
            self.assertEqual(read_text(text), (figure, places))

    def test_texts(self):
        for text, answer in (
                ("0", (0, 0)), ("-0", (0, 0)), ("+0", (0, 0)), ("-0.00", (0, 2)), ("+0.0", (0, 1)), ("7", (7, 0)),
                ("     -7", (-7, 0)), ("+7", (7, 0)), ("12", (12, 0)), ("123", (123, 0)), ("1234", (1234, 0)),
                ("12345678", (12345678, 0)), ("1,234", (1234, 0)), ("12,345", (12345, 0)), ("123,456", (123456, 0)),
                ("1,000,000", (1000000, 0)), ("-1,234.5", (-12345, 1)), ("1234.56", (123456, 2)), ("0.007", (7, 3)),
                ("-0.5", (-5, 1)), ("10.50", (1050, 2)), ("0." + "0" * 59 + "1", (1, 60)),
                ("1,234." + "9" * 60, (1234 * 10 ** 60 + 10 ** 60 - 1, 60))):
            self.assertEqual(read_text(text), answer, text)
        self.assertEqual(read_text(text=" 1"), (1, 0))

    def test_the_answer_is_a_tuple_of_integers(self):
        answer = read_text("-1.50")
        self.assertEqual([type(answer), type(answer[0]), type(answer[1])], [tuple, int, int])

    def test_texts_that_are_wrong(self):
        for text, at in (
                ("", 0), (" ", 1), ("    ", 4), ("-", 1), ("+", 1), ("  +", 3), ("\t1", 0), (" \t1", 1), ("\n", 0),
                ("+-1", 1), ("--1", 1), ("- 1", 1), ("-\t1", 1), ("a", 0), ("1a", 1), (" a1", 1), ("1 ", 1), ("1\n", 1),
                ("1-", 1), ("00", 1), ("01", 1), ("-01", 2), ("0,", 1), ("0,123", 1), ("1,", 2), ("1,2", 3),
                ("1,23", 4), ("1,2345", 5), ("1,23a", 4), ("1,a", 2), ("1,,234", 2), ("1,23,456", 4),
                ("1,234,", 6), ("1,234,56", 8),
                ("1234,567", 4), ("1234,", 4), ("12,345,6789", 10), (",123", 0), (".", 0), (".5", 0), ("-.5", 1),
                ("1.", 2), ("0.", 2), ("1.a", 2), ("1..", 2), ("1.2.", 3), ("1.2,", 3), ("1.234,567", 5), ("1.2-", 3),
                ("1,234.", 6), ("1,.5", 2), ("1." + "0" * 61, 62), ("1." + "0" * 60 + ".", 62),
                ("1." + "0" * 60 + " ", 62), ("0x1", 1), ("1e5", 1), ("1_000", 1), (" " * 10000, 10000),
                ("9" * 1999 + "x", 1999)):
            self.check_wrong(text, at)

    def test_all_short_texts(self):
        for alphabet, most in ((" \t-+01,.x", 5), ("1,.", 8), ("10,", 8), (" -0.", 6)):
            for many in range(most + 1):
                for characters in itertools.product(alphabet, repeat=many):
                    self.check("".join(characters))

    def test_one_character_put_into_good_texts(self):
        for text in ("  -1,234,567.89", "+0.05", "12345.6", "   123", "999,000"):
            for at in range(len(text) + 1):
                for character in " \t\n-+0179,.aZ_'":
                    self.check(text[:at] + character + text[at:])
                    self.check(text[:at] + character + text[at + 1:])
                self.check(text[:at])

    def test_long_texts(self):
        self.assertEqual(read_text("9" * 2000), (10 ** 2000 - 1, 0))
        self.assertEqual(read_text("-" + "9" * 1940 + "." + "9" * 60), (1 - 10 ** 2000, 60))
        self.assertEqual(read_text("1" + ",000" * 666), (10 ** 1998, 0))
        self.assertEqual(read_text(" " * 7999 + "1" + "0" * 1999), (10 ** 1999, 0))
        self.check_wrong("1" + ",000" * 666 + "0", 2665)
        self.check_wrong("1" + ",000" * 666 + ",00", 2668)
        self.check_wrong("9" * 2000 + ",000", 2000)
        self.check_wrong(" " * 9998 + "-+", 9999)

    def test_what_is_no_string(self):
        for thing in NO_INTEGERS + (0, 1, -5, 10 ** 199):
            if isinstance(thing, str):
                continue
            kept = copy.deepcopy(thing)
            self.check_wrong(thing, 0)
            self.assertEqual(thing, kept)


if __name__ == "__main__":
    unittest.main()
