"""Some sides: a list of 1 to 4 of them, among which values are handed over."""

from math import lcm

from handedtext.errors import InvalidSides
from handedtext.sides import form, is_side, mirror, written

MOST_SIDES = 4

MOST_HANDOVERS = 1000


def check_sides(sides):
    """Raise InvalidSides if a thing is no list of 1 to 4 sides."""
    if not isinstance(sides, list) or not 1 <= len(sides) <= MOST_SIDES:
        raise InvalidSides("sides are a list of 1 to 4 sides")
    for side in sides:
        if not is_side(side):
            raise InvalidSides("an item of the sides is no side")


def period_of(side):
    """Return the period of a side: its step, or twice its step if it looks at even figures."""
    _, step, mode = side
    if mode == "half_even":
        return 2 * step
    return step


def moved(side, by):
    """Return the side that does to x + by what a side does to x; its offset is one of those below its period."""
    offset, step, mode = side
    return (offset + by) % period_of(side), step, mode


def common_period(sides):
    """Return the least common multiple of the periods of some sides, 1 of none."""
    many = 1
    for side in sides:
        many = lcm(many, period_of(side))
    return many


def raisers(sides):
    """Return those of some sides that raise some values."""
    return [side for side in sides if _raises_some(side)]


def _raises_some(side):
    """Return whether a side raises some values."""
    _, _, mode = form(side)
    # A side that raises none writes what one with its step that always goes down writes.
    return mode != "down"


def highest(sides, value):
    """Return the greatest one of a value and what some sides write for it."""
    return max([value] + [written(side, value) for side in sides])


def mirrors(sides):
    """Return the mirrors of some sides: they raise where these lower."""
    return [mirror(side) for side in sides]
