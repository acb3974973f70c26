"""The errors of the interface ([2])."""

import inspect
import unittest

from handedtext import errors

PLAIN = (
    "InvalidSide", "InvalidValue", "InvalidPlaces", "InvalidStyle", "InvalidUnits", "TooMany", "InvalidNumber",
    "InvalidSides", "InvalidSeen", "InvalidEntries", "UnknownName", "CannotBe", "NothingToUndo", "NothingToRedo",
    "UnknownDeed", "InvalidNumbers",
)
ALL = PLAIN + ("InvalidText", "InvalidLine")


def error_named(name):
    return getattr(errors, name)


class ErrorsTest(unittest.TestCase):

    def test_just_the_listed_errors_are_there(self):
        found = {name for name, thing in vars(errors).items() if inspect.isclass(thing)}
        self.assertEqual(found, set(ALL) | {"HandedError"})

    def test_each_is_defined_in_its_file(self):
        for name in ALL + ("HandedError",):
            self.assertEqual(error_named(name).__module__, "handedtext.errors", name)
            self.assertEqual(error_named(name).__name__, name)

    def test_handed_error_is_a_value_error(self):
        self.assertTrue(issubclass(errors.HandedError, ValueError))

    def test_each_is_a_handed_error_and_none_of_the_others(self):
        for name in ALL:
            self.assertTrue(issubclass(error_named(name), errors.HandedError), name)
            self.assertTrue(issubclass(error_named(name), ValueError), name)
            for other in ALL:
                self.assertEqual(issubclass(error_named(name), error_named(other)), name == other, (name, other))

    def test_plain_ones_are_created_without_an_argument_or_with_a_string(self):
        for name in PLAIN + ("HandedError",):
            kind = error_named(name)
            self.assertIsInstance(kind(), kind)
            self.assertEqual(str(kind("why")), "why")
            with self.assertRaises(kind):
                raise kind("why")

    def test_invalid_text_has_its_place(self):
        for at in (0, 1, -3, 10 ** 50):
            self.assertEqual(errors.InvalidText(at).at, at)
            self.assertEqual(errors.InvalidText(at=at).at, at)
        with self.assertRaises(errors.HandedError) as caught:
            raise errors.InvalidText(7)
        self.assertEqual(caught.exception.at, 7)

    def test_invalid_line_has_its_line_and_reason(self):
        for line, reason in ((0, "text"), (12, "line"), (-1, ""), (10 ** 50, "any string")):
            error = errors.InvalidLine(line, reason)
            self.assertEqual((error.line, error.reason), (line, reason))
            error = errors.InvalidLine(reason=reason, line=line)
            self.assertEqual((error.line, error.reason), (line, reason))

    def test_two_objects_have_their_own_attributes(self):
        one, other = errors.InvalidText(1), errors.InvalidText(2)
        self.assertEqual((one.at, other.at), (1, 2))
        one, other = errors.InvalidLine(1, "name"), errors.InvalidLine(2, "value")
        self.assertEqual((one.line, one.reason, other.line, other.reason), (1, "name", 2, "value"))
        self.assertFalse(hasattr(errors.InvalidText, "at"))
        self.assertFalse(hasattr(errors.InvalidLine, "line"))


if __name__ == "__main__":
    unittest.main()
