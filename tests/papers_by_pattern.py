"""Papers read in another way: by patterns over whole lines."""

import re

MODES = ("down", "up", "half_down", "half_up", "half_even")

NO_NAMES = ("at", "down", "end", "log", "places", "set", "side", "up")

WORD = "([^ ]+)"
NUMBER = "(0|-?[1-9][0-9]{0,40})"

SIDE = re.compile(f"side {WORD} {NUMBER} {WORD} places {NUMBER}(?: at (?!0$){NUMBER})?")
SET = re.compile(f"set {WORD}((?: [^ ]+)+)")
LOG = re.compile(f"log {WORD} {WORD}")
LINE = re.compile(f"{WORD} {WORD}")


def is_name(word):
    """Return whether a word is a name."""
    return re.fullmatch("[a-z]{1,8}", word) is not None and word not in NO_NAMES


def is_text(word, places):
    """Return whether a word is what is written for some figure with so many places."""
    point = "" if places == 0 else "[.][0-9]{%d}" % places
    return re.fullmatch(f"-?(0|[1-9][0-9]*){point}", word) is not None and not re.fullmatch("-[0.]*", word)


def read_by_pattern(text):
    """Return ("entries", entries) or ("wrong", line, reason)."""
    entries, sides, sets, names = [], {}, {}, set()
    log = None
    rows = text.split("\n")
    for number, row in enumerate(rows):
        row = re.sub(" +", " ", row).strip(" ")
        if not row:
            continue
        reason = None
        if log is not None and row == "end":
            if len(log[3]) > 50:
                reason = "value"
            else:
                entries.append((*log[:3], tuple(log[3])))
                log = None
        elif log is not None:
            found = LINE.fullmatch(row)
            if not found:
                reason = "line"
            elif found[1] not in sets[log[2]]:
                reason = "name"
            elif not is_text(found[2], sides[found[1]]):
                reason = "value"
            else:
                log[3].append((found[1], found[2]))
        elif found := SIDE.fullmatch(row):
            step, places, offset = int(found[2]), int(found[4]), int(found[5] or 0)
            if not is_name(found[1]) or found[1] in names:
                reason = "name"
            elif found[3] not in MODES or not 1 <= step <= 10 ** 30 or abs(offset) > 10 ** 40 or not 0 <= places <= 60:
                reason = "value"
            else:
                entries.append(("side", found[1], (offset, step, found[3]), places))
                names.add(found[1])
                sides[found[1]] = places
        elif found := SET.fullmatch(row):
            parts = tuple(found[2].split(" ")[1:])
            if not is_name(found[1]) or found[1] in names or any(part not in sides for part in parts):
                reason = "name"
            elif len(parts) > 4:
                reason = "value"
            else:
                entries.append(("set", found[1], parts))
                names.add(found[1])
                sets[found[1]] = parts
        elif found := LOG.fullmatch(row):
            if not is_name(found[1]) or found[1] in names or found[2] not in sets:
                reason = "name"
            else:
                log = ("log", found[1], found[2], [])
                names.add(found[1])
        else:
            reason = "line"
        if reason:
            return "wrong", number, reason
    if log is not None:
        return "wrong", len(rows), "line"
    return "entries", entries
