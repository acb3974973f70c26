"""What happens to a value in the long run."""

from handedtext.among import check_sides
from handedtext.checks import check_value
from handedtext.errors import TooMany
from handedtext.sides import written

MOST_OUTCOMES = 1000


def outcomes(sides, value):
    """Return the ascending list of all values to which a value can come."""
    check_sides(sides)
    check_value(value)
    found = [value]
    known = {value: True}
    at = 0
    while at < len(found):
        for side in sides:
            there = written(side, found[at])
            if there not in known:
                known[there] = True
                found.append(there)
        if len(found) > MOST_OUTCOMES:
            raise TooMany("there are more than 1,000 values")
        at += 1
    return sorted(found)


def rests(sides, value):
    """Return the ascending list of the resting sets to which a value can come."""
    values = outcomes(sides, value)
    # Hand-overs keep the order of values, so none leads past a resting set: if a value comes to one, this holds the
    # least or the greatest of its outcomes.
    lower = _rest_of(sides, values[0])
    upper = _rest_of(sides, values[-1])
    if lower == upper:
        return [lower]
    return [lower, upper]


def _rest_of(sides, value):
    """Return the resting set to which a value comes that goes up as far as it can, and then down as far as it can."""
    top = outcomes(sides, value)[-1]
    bottom = outcomes(sides, top)[0]
    return outcomes(sides, bottom)
