"""Ways of hand-overs: where they lead, and from where a value can have come."""

from handedtext.among import MOST_HANDOVERS, check_sides, common_period, moved
from handedtext.checks import check_value, is_int_between
from handedtext.errors import InvalidNumbers, TooMany
from handedtext.sides import threshold, written


def along(sides, numbers, value):
    """Return the values behind each of some hand-overs, by sides with these numbers."""
    check_sides(sides)
    _check_numbers(numbers, len(sides))
    check_value(value)
    values = []
    here = value
    for number in numbers:
        here = written(sides[number], here)
        values.append(here)
    return values


def _check_numbers(numbers, many):
    """Raise InvalidNumbers if a thing is no list of 0 to 1,000 numbers of so many sides."""
    if not isinstance(numbers, list) or len(numbers) > MOST_HANDOVERS:
        raise InvalidNumbers("numbers are a list of at most 1,000 numbers of sides")
    for number in numbers:
        if not is_int_between(number, 0, many - 1):
            raise InvalidNumbers("a number is that of a side")


def before(sides, value):
    """Return the least and the greatest value that can come to a value, None where there is no end."""
    check_sides(sides)
    check_value(value)
    return _ends(sides, value, _runs(sides, value))


def route(sides, start, value):
    """Return the least of the shortest lists of numbers of sides that lead from start to a value, or None."""
    check_sides(sides)
    check_value(start)
    check_value(value)
    runs = _runs(sides, value)
    many = _fewest(sides, start, value, runs)
    if many is None:
        return None
    return _way(sides, start, runs[:many])


def can_come(sides, start, value):
    """Return whether a value can come to another one; for unlike ones with the errors of before."""
    return start == value or _holds(before(sides, value), start)


def fewest_handovers(sides, start, value):
    """Return how many hand-overs route tells, or None, without a check."""
    return _fewest(sides, start, value, _runs(sides, value))


def _fewest(sides, start, value, runs):
    """Return by how few hand-overs start comes to a value, whose runs are told, or None."""
    for many, run in enumerate(runs[:MOST_HANDOVERS + 1]):
        if _holds(run, start):
            return many
    if _holds(_ends(sides, value, runs), start):
        raise TooMany("there are more than 1,000 hand-overs, or no way")
    return None


def _runs(sides, value):
    """Return runs (least, greatest): of the values that come to a value by at most 0, 1, 2, .. hand-overs.

    There are no more behind a run that does not grow, nor behind that of 1,001 hand-overs.
    """
    # Seen from the value, the numbers are short even where the value is long.
    near = [moved(side, -value) for side in sides]
    runs = [(0, 0)]
    for many in range(MOST_HANDOVERS + 1):
        run = _widened(near, runs[many])
        if run == runs[many]:
            break
        runs.append(run)
    return [(value + least, value + greatest) for least, greatest in runs]


def _widened(sides, run):
    """Return the run of the values that come into a run by at most one hand-over.

    It has no gaps: if any value comes into the run by a side, one that stands there does, and it comes to itself.
    """
    least, greatest = run
    low, high = run
    for side in sides:
        first = threshold(side, least)
        last = threshold(side, greatest + 1) - 1
        if first <= last:
            low = min(low, first)
            high = max(high, last)
    return low, high


def _ends(sides, value, runs):
    """Return what before tells of a value, whose runs are told."""
    many = common_period(sides)
    window = value - many, value + many
    if len(runs) > MOST_HANDOVERS + 1:
        # What lies beyond the window does not matter: a run that has come to its end goes on for ever.
        if _within(runs[MOST_HANDOVERS], window) != _within(runs[MOST_HANDOVERS + 1], window):
            raise TooMany("there are more than 1,000 hand-overs")
    least, greatest = _within(runs[len(runs) - 1], window)
    return (None if least == window[0] else least), (None if greatest == window[1] else greatest)


def _within(run, window):
    """Return the part of a run that lies in a window."""
    return max(run[0], window[0]), min(run[1], window[1])


def _holds(ends, value):
    """Return whether a value lies between two ends, or is one of them; None is no end."""
    least, greatest = ends
    return (least is None or least <= value) and (greatest is None or value <= greatest)


def _way(sides, start, runs):
    """Return the least list of numbers of sides that leads from start into each run, from the last to the first one."""
    numbers = []
    here = start
    for many in range(len(runs)):
        run = runs[len(runs) - 1 - many]
        places = [written(side, here) for side in sides]
        fitting = [number for number, place in enumerate(places) if _holds(run, place)]
        numbers.append(fitting[0])
        here = places[fitting[0]]
    return numbers
