"""A trace of values that were seen among some sides, with deeds that can be taken back and tried."""

from handedtext.among import check_sides
from handedtext.checks import check_value, is_int, is_int_between
from handedtext.errors import CannotBe, InvalidNumber, NothingToRedo, NothingToUndo, TooMany, UnknownDeed
from handedtext.logs import MOST_SEEN, fault
from handedtext.ways import before

FORMS = (("see", 2), ("slip", 3), ("drop", 2), ("undo", 1), ("redo", 1))


class Trace:
    """Up to 50 values that were seen among some sides; each can come to the next one."""

    def __init__(self, sides):
        check_sides(sides)
        self._sides = list(sides)
        # A list of seen values is kept by what was before or can come again, so it is never changed.
        self._seen = []
        self._past = []
        self._undone = []

    def see(self, value):
        """Put a value behind the others."""
        self._put(len(self._seen), value)

    def slip(self, number, value):
        """Put a value ahead of the one with a number."""
        self._check_number(number)
        self._put(number, value)

    def drop(self, number):
        """Leave the value with a number out."""
        self._check_number(number)
        self._go_on(self._seen[:number] + self._seen[number + 1:])

    def undo(self):
        """Take back the last deed that has not been taken back."""
        if self._past == []:
            raise NothingToUndo("no deed is left")
        self._undone.append(self._seen)
        self._seen = self._past.pop()

    def redo(self):
        """Do the deed again that was taken back last."""
        if self._undone == []:
            raise NothingToRedo("no deed that was taken back is left")
        self._past.append(self._seen)
        self._seen = self._undone.pop()

    def starts(self):
        """Return the least and the greatest value that can come to the first one, (None, None) if there is none."""
        if self._seen == []:
            return None, None
        return before(self._sides, self._seen[0])

    def allows(self, value):
        """Return whether a value could be seen next."""
        check_value(value)
        return fault(self._sides, self._seen[-1:] + [value]) is None

    def trial(self):
        """Return what keeps the trace as it is if an error leaves a block under `with`."""
        return Trial(self)

    def __getitem__(self, number):
        self._check_number(number)
        return self._seen[number]

    def __iter__(self):
        raise TypeError("a trace is not iterated over")

    def __len__(self):
        return len(self._seen)

    def __contains__(self, value):
        return is_int(value) and value in self._seen

    def _check_number(self, number):
        """Raise InvalidNumber if no value has a number."""
        if not is_int_between(number, 0, len(self._seen) - 1):
            raise InvalidNumber("no value has this number")

    def _put(self, number, value):
        """Put a value ahead of a place."""
        check_value(value)
        if len(self._seen) == MOST_SEEN:
            raise TooMany("there are 50 values")
        ahead, behind = self._seen[:number], self._seen[number:]
        if fault(self._sides, ahead[-1:] + [value] + behind[:1]) is not None:
            raise CannotBe("a value cannot come to the next one")
        self._go_on(ahead + [value] + behind)

    def _go_on(self, seen):
        """Go on with other seen values, behind which nothing can be done again."""
        self._past.append(self._seen)
        self._undone = []
        self._seen = seen


class Trial:
    """A block that leaves a trace as it was if an error leaves the block."""

    def __init__(self, trace):
        self._trace = trace
        self._seen = []
        self._past = []
        self._undone = []

    def __enter__(self):
        self._seen = self._trace._seen
        self._past = list(self._trace._past)
        self._undone = list(self._trace._undone)
        return self._trace

    def __exit__(self, kind, value, trace):
        if kind is not None:
            self._trace._seen = self._seen
            self._trace._past = self._past
            self._trace._undone = self._undone


def try_all(trace, deeds):
    """Do what a list of deeds tells, one behind the other, or nothing of it."""
    with trace.trial() as same:
        for deed in deeds:
            _do(same, deed)


def _do(trace, deed):
    """Do what a deed tells."""
    word = _word_of(deed)
    if word == "see":
        trace.see(deed[1])
    elif word == "slip":
        trace.slip(deed[1], deed[2])
    elif word == "drop":
        trace.drop(deed[1])
    elif word == "undo":
        trace.undo()
    else:
        trace.redo()


def _word_of(deed):
    """Return the word of a deed, or raise UnknownDeed if a thing has the form of none."""
    for word, many in FORMS:
        if isinstance(deed, tuple) and len(deed) == many and deed[0] == word:
            return word
    raise UnknownDeed("an entry tells no deed")
