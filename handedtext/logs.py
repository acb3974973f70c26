"""Logs of values that were seen among some sides, though what was between them is not known."""

from handedtext.among import check_sides
from handedtext.checks import is_int
from handedtext.errors import InvalidSeen
from handedtext.ways import can_come, fewest_handovers

MOST_SEEN = 50


def fault(sides, seen):
    """Return the least number of a seen value to which the one ahead of it cannot come, or None."""
    check_sides(sides)
    _check_seen(seen)
    for number in range(1, len(seen)):
        if not can_come(sides, seen[number - 1], seen[number]):
            return number
    return None


def hops(sides, seen):
    """Return by how few hand-overs each seen value but the last one comes to the next one, None where it cannot."""
    check_sides(sides)
    _check_seen(seen)
    return [fewest_handovers(sides, seen[number - 1], seen[number]) for number in range(1, len(seen))]


def _check_seen(seen):
    """Raise InvalidSeen if a thing is no list of at most 50 values."""
    if not isinstance(seen, list) or len(seen) > MOST_SEEN:
        raise InvalidSeen("seen values are a list of at most 50 values")
    for value in seen:
        if not is_int(value):
            raise InvalidSeen("an item of the seen values is no integer")
