"""The errors of the package."""


class HandedError(ValueError):
    """Base class of all errors of the package."""


class InvalidSide(HandedError):
    """A thing that should be a side is none."""


class InvalidValue(HandedError):
    """A thing that should be a value, or a figure, is no integer."""


class InvalidPlaces(HandedError):
    """A number of places is none from 0 to 60."""


class InvalidStyle(HandedError):
    """An option of the way in which a figure is written is none."""


class InvalidUnits(HandedError):
    """A thing that should be a list of units is none."""


class TooMany(HandedError):
    """An answer would need more steps than the document allows."""


class InvalidNumber(HandedError):
    """A number, of hand-overs or of a value in a trace, is none."""


class InvalidSides(HandedError):
    """A thing that should be a list of sides is none."""


class InvalidText(HandedError):
    """A text stands for no figure; `at` is the place from which on it is wrong."""

    def __init__(self, at):
        self.at = at


class InvalidSeen(HandedError):
    """A thing that should be a list of seen values is none."""


class InvalidEntries(HandedError):
    """A thing that should be the entries of a paper is none."""


class UnknownName(HandedError):
    """No entry of the kind that is asked for has this name."""


class CannotBe(HandedError):
    """A value cannot come to the one behind it in a trace."""


class NothingToUndo(HandedError):
    """No deed is left that can be taken back."""


class NothingToRedo(HandedError):
    """No deed is left that can be done again."""


class UnknownDeed(HandedError):
    """An entry of a list of deeds tells no deed."""


class InvalidLine(HandedError):
    """A paper is wrong; `line` is its first wrong line, `reason` says in what way."""

    def __init__(self, line, reason):
        self.line = line
        self.reason = reason


class InvalidNumbers(HandedError):
    """A thing that should be a list of numbers of sides is none."""
