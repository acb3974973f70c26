"""Entries of a paper: sides, sets of sides, and logs of what was seen among the sides of a set."""

from handedtext.among import MOST_SIDES
from handedtext.checks import is_int_between
from handedtext.errors import InvalidEntries, InvalidText
from handedtext.figures import MOST_PLACES, read_text, text_of
from handedtext.logs import MOST_SEEN
from handedtext.sides import is_side

NO_NAMES = ("at", "down", "end", "log", "places", "set", "side", "up")

LETTERS = "abcdefghijklmnopqrstuvwxyz"

MOST_LETTERS = 8


def known_entries(entries):
    """Return a dict of entries by their names, or raise InvalidEntries if a thing is no list of entries."""
    if not isinstance(entries, list):
        raise InvalidEntries("entries are a list")
    known = {}
    for entry in entries:
        if not (_is_formed(entry) and names_fit(entry, known) and worths_fit(entry, known)):
            raise InvalidEntries("an item of the entries is none behind those ahead of it")
        known[entry[1]] = entry
    return known


def _is_formed(thing):
    """Return whether a thing has the form of an entry, whatever its names and worths are."""
    if not isinstance(thing, tuple) or len(thing) < 3:
        return False
    kind = thing[0]
    if kind == "side":
        return len(thing) == 4
    if kind == "set":
        return len(thing) == 3 and isinstance(thing[2], tuple)
    return kind == "log" and len(thing) == 4 and _are_lines(thing[3])


def _are_lines(thing):
    """Return whether a thing is a tuple of pairs."""
    return isinstance(thing, tuple) and all([isinstance(line, tuple) and len(line) == 2 for line in thing])


def names_fit(entry, known):
    """Return whether the names in an entry are such as can stand there, behind the known entries."""
    if not _is_name(entry[1]) or entry[1] in known:
        return False
    if entry[0] == "set":
        return all([is_known("side", name, known) for name in entry[2]])
    if entry[0] == "log":
        return is_known("set", entry[2], known) and all([is_in_set(name, entry[2], known) for name, _ in entry[3]])
    return True


def _is_name(thing):
    """Return whether a thing is a name."""
    if not isinstance(thing, str) or not 1 <= len(thing) <= MOST_LETTERS:
        return False
    return thing not in NO_NAMES and all([letter in LETTERS for letter in thing])


def is_known(kind, name, known):
    """Return whether a thing is the name of a known entry of a kind."""
    return isinstance(name, str) and name in known and known[name][0] == kind


def is_in_set(name, group, known):
    """Return whether a thing is the name of a side of a known set."""
    _, _, names = known[group]
    return name in names


def worths_fit(entry, known):
    """Return whether what an entry tells beside its names is such as can stand there."""
    if entry[0] == "side":
        return is_side(entry[2]) and is_int_between(entry[3], 0, MOST_PLACES)
    if entry[0] == "set":
        return 1 <= len(entry[2]) <= MOST_SIDES
    return len(entry[3]) <= MOST_SEEN and all([text_fits(name, text, known) for name, text in entry[3]])


def text_fits(name, text, known):
    """Return whether a thing is what is written for some figure with the places of a known side."""
    _, _, _, places = known[name]
    try:
        figure, _ = read_text(text)
    except InvalidText:
        return False
    # A figure is read from several texts, of which just one is written for it with these places.
    return text_of(figure, places) == text
