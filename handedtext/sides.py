"""Sides: writers that write each value in steps of their own."""

from handedtext.checks import check_value, is_int_between
from handedtext.errors import InvalidSide

MODES = ("down", "up", "half_down", "half_up", "half_even")

MIRRORED = {
    "down": "up",
    "up": "down",
    "half_down": "half_up",
    "half_up": "half_down",
    "half_even": "half_even",
}


def check_side(side):
    """Raise InvalidSide if a thing is no side (offset, step, mode)."""
    if not isinstance(side, tuple) or len(side) != 3:
        raise InvalidSide("a side is a tuple (offset, step, mode)")
    offset, step, mode = side
    if not is_int_between(offset, -10 ** 40, 10 ** 40):
        raise InvalidSide("an offset is an integer from -10 ** 40 to 10 ** 40")
    if not is_int_between(step, 1, 10 ** 30):
        raise InvalidSide("a step is an integer from 1 to 10 ** 30")
    if mode not in MODES:
        raise InvalidSide("a mode is one of down, up, half_down, half_up, half_even")


def is_side(thing):
    """Return whether a thing is a side."""
    try:
        check_side(thing)
    except InvalidSide:
        return False
    return True


def figure_of(side, value):
    """Return the figure to which a value comes at a side."""
    check_side(side)
    check_value(value)
    return _figure(side, value)


def _figure(side, value):
    """Return the figure of a value, without a check."""
    offset, step, mode = side
    figure, rest = divmod(value - offset, step)
    if _goes_up(mode, step, figure, rest):
        return figure + 1
    return figure


def _goes_up(mode, step, figure, rest):
    """Return whether a value comes to the next figure if it is above this one by the rest, less than a step."""
    if mode == "down":
        return False
    if mode == "up":
        return rest > 0
    if 2 * rest != step:
        return 2 * rest > step
    if mode == "half_even":
        return figure % 2 == 1
    return mode == "half_up"


def handed(side, value):
    """Return the value for which the figure stands that a side writes for a value."""
    check_side(side)
    check_value(value)
    return written(side, value)


def written(side, value):
    """Return what handed returns, without a check: for loops over sides that have been checked."""
    offset, step, _ = side
    return offset + step * _figure(side, value)


def stands(side, value):
    """Return whether a value stands on a side."""
    check_side(side)
    check_value(value)
    offset, step, _ = side
    return (value - offset) % step == 0


def span(side, figure):
    """Return the least and the greatest value that come to a figure of a side."""
    check_side(side)
    check_value(figure)
    return _span(side, figure)


def _span(side, figure):
    """Return the span of a figure, without a check."""
    offset, step, mode = side
    value = offset + step * figure
    # What comes to a figure from above comes to it from below in the mirror.
    return value - _below(mode, step, figure), value + _below(MIRRORED[mode], step, figure)


def _below(mode, step, figure):
    """Return how far below a figure's standing value values still come to it."""
    if mode == "down":
        return 0
    if mode == "up":
        return step - 1
    if mode == "half_up" or (mode == "half_even" and figure % 2 == 0):
        return step // 2
    return (step - 1) // 2


def back(side, value):
    """Return the threshold of a value: the least value whose handed one is not less than it."""
    check_side(side)
    check_value(value)
    return threshold(side, value)


def threshold(side, value):
    """Return what back returns, without a check: for loops over sides that have been checked."""
    offset, step, mode = side
    # The least figure that stands for no less than the value: a quotient that is rounded up.
    figure = -((offset - value) // step)
    return offset + step * figure - _below(mode, step, figure)


def mirror(side):
    """Return the side that does to -x what a side does to x."""
    check_side(side)
    offset, step, mode = side
    return -offset, step, MIRRORED[mode]


def form(side):
    """Return the one form of all sides that write the same value as this one for each value."""
    check_side(side)
    offset, step, mode = side
    first = _first_mode(step, mode)
    if first == "half_even":
        # A move by one step turns even figures into odd ones.
        return offset % (2 * step), step, first
    return offset % step, step, first


def _first_mode(step, mode):
    """Return the first mode that writes alike with a step; the offset may differ by whole steps."""
    if step == 1:
        return "down"
    if step == 2 and mode == "half_down":
        return "down"
    if step == 2 and mode == "half_up":
        return "up"
    # With an odd step no value is in the middle between two.
    if step % 2 == 1 and mode in ("half_up", "half_even"):
        return "half_down"
    return mode
