"""Papers: sides, sets of sides and logs as text."""

from handedtext.entries import is_in_set, is_known, known_entries, names_fit, text_fits, worths_fit
from handedtext.errors import InvalidLine, UnknownName
from handedtext.figures import DIGITS, read_text, text_of
from handedtext.logs import MOST_SEEN
from handedtext.sides import figure_of

MOST_DIGITS = 41


def paper_text(entries):
    """Return the text of entries."""
    known_entries(entries)
    lines = []
    for entry in entries:
        lines.extend(_lines_of(entry))
    return "".join([line + "\n" for line in lines])


def _lines_of(entry):
    """Return the lines of an entry."""
    if entry[0] == "side":
        return [_side_line(entry)]
    if entry[0] == "set":
        _, name, names = entry
        return [" ".join(["set", name, *names])]
    _, name, group, lines = entry
    return [f"log {name} {group}"] + [f"{part} {text}" for part, text in lines] + ["end"]


def _side_line(entry):
    """Return the line of a side's entry."""
    _, name, side, places = entry
    offset, step, mode = side
    line = f"side {name} {step} {mode} places {places}"
    if offset == 0:
        return line
    return f"{line} at {offset}"


def log_of(entries, name):
    """Return the list of the sides of a log's set, and the list of the values that its lines tell."""
    known = known_entries(entries)
    if not is_known("log", name, known):
        raise UnknownName("no log has this name")
    _, _, group, lines = known[name]
    _, _, names = known[group]
    seen = []
    for part, text in lines:
        offset, step, _ = known[part][2]
        figure, _ = read_text(text)
        seen.append(offset + step * figure)
    return [known[part][2] for part in names], seen


def text_at(entries, name, value):
    """Return the text of the figure to which a value comes at the side of a name."""
    known = known_entries(entries)
    if not is_known("side", name, known):
        raise UnknownName("no side has this name")
    _, _, side, places = known[name]
    return text_of(figure_of(side, value), places)


def read_paper(text):
    """Return the entries of a text."""
    if not isinstance(text, str):
        raise InvalidLine(0, "text")
    lines = text.split("\n")
    reader = Reader()
    for number, line in enumerate(lines):
        words = [word for word in line.split(" ") if word != ""]
        reason = reader.fault_of(words)
        if reason is not None:
            raise InvalidLine(number, reason)
    if reader.log is not None:
        raise InvalidLine(len(lines), "line")
    return reader.entries


class Reader:
    """What has been read of a paper: the entries, and the log within which the next line stands."""

    def __init__(self):
        self.entries = []
        self.log = None
        self._lines = []
        self._known = {}

    def fault_of(self, words):
        """Read a line, told by its words; return the reason why it is wrong, or None."""
        if words == []:
            return None
        if self.log is None:
            return self._fault_of_entry(words)
        if words == ["end"]:
            return self._fault_of_end()
        return self._fault_within(words)

    def _fault_of_entry(self, words):
        """Read a line outside of logs."""
        entry = _entry_of(words)
        if entry is None:
            return "line"
        if not names_fit(entry, self._known):
            return "name"
        if not worths_fit(entry, self._known):
            return "value"
        if entry[0] == "log":
            self.log = entry
            self._lines = []
        else:
            self._add(entry)
        return None

    def _fault_within(self, words):
        """Read a line within a log."""
        if len(words) != 2:
            return "line"
        name, text = words
        if not is_in_set(name, self.log[2], self._known):
            return "name"
        if not text_fits(name, text, self._known):
            return "value"
        self._lines.append((name, text))
        return None

    def _fault_of_end(self):
        """Read the end of a log."""
        if len(self._lines) > MOST_SEEN:
            return "value"
        kind, name, group, _ = self.log
        self._add((kind, name, group, tuple(self._lines)))
        self.log = None
        return None

    def _add(self, entry):
        """Put an entry behind the others."""
        self._known[entry[1]] = entry
        self.entries.append(entry)


def _entry_of(words):
    """Return the entry that a line tells, a log without its lines, or None if it has the form of none."""
    if words[0] == "side":
        return _side_entry_of(words)
    if words[0] == "set" and len(words) > 2:
        return "set", words[1], tuple(words[2:])
    if words[0] == "log" and len(words) == 3:
        return "log", words[1], words[2], ()
    return None


def _side_entry_of(words):
    """Return the entry that the line of a side tells, or None if it has not the form of one."""
    if len(words) == 6:
        words = words + ["at", "0"]
    elif len(words) != 8 or words[7] == "0":
        return None
    _, name, step, mode, places_word, places, at_word, offset = words
    if places_word != "places" or at_word != "at" or not all([_is_number(word) for word in (step, places, offset)]):
        return None
    return "side", name, (int(offset), int(step), mode), int(places)


def _is_number(word):
    """Return whether a word is a number as papers have it."""
    digits = word.removeprefix("-")
    if not 1 <= len(digits) <= MOST_DIGITS or not all([digit in DIGITS for digit in digits]):
        return False
    return word == "0" or digits[0] != "0"
