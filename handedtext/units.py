"""Units whose offsets and steps are fractions, and the sides that they are in a common small part."""

from math import gcd, lcm

from handedtext.checks import is_int
from handedtext.errors import InvalidUnits, TooMany
from handedtext.sides import MODES, is_side

MOST_UNITS = 8


def scaled(units):
    """Return the least parts that make all offsets and steps integers, and the sides with these."""
    _check_units(units)
    parts = 1
    for offset, step, _ in units:
        parts = lcm(parts, _lowest_denominator(offset), _lowest_denominator(step))
    sides = [(_times(parts, offset), _times(parts, step), mode) for offset, step, mode in units]
    for side in sides:
        if not is_side(side):
            raise TooMany("an offset or a step is too large for a side")
    return parts, sides


def _check_units(units):
    """Raise InvalidUnits if a thing is no list of 1 to 8 units."""
    if not isinstance(units, list) or not 1 <= len(units) <= MOST_UNITS:
        raise InvalidUnits("units are a list of 1 to 8 units")
    for unit in units:
        if not _is_unit(unit):
            raise InvalidUnits("a unit is a tuple (offset, step, mode) with fractions (a, b)")


def _is_unit(thing):
    """Return whether a thing is a unit (offset, step, mode)."""
    if not isinstance(thing, tuple) or len(thing) != 3:
        return False
    offset, step, mode = thing
    return _is_fraction(offset) and _is_fraction(step) and step[0] >= 1 and mode in MODES


def _is_fraction(thing):
    """Return whether a thing is a tuple (a, b) that stands for a / b, with b from 1 on."""
    if not isinstance(thing, tuple) or len(thing) != 2:
        return False
    above, below = thing
    return is_int(above) and is_int(below) and below >= 1


def _lowest_denominator(fraction):
    """Return the denominator of a fraction in lowest terms."""
    above, below = fraction
    return below // gcd(above, below)


def _times(parts, fraction):
    """Return a fraction times parts that are a multiple of its lowest denominator."""
    above, below = fraction
    return parts * above // below
