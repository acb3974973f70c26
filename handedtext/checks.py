"""Checks of arguments that several files of the package share."""

from handedtext.errors import InvalidValue


def is_int(thing):
    """Return whether a thing is an integer; True and False are none here."""
    return isinstance(thing, int) and not isinstance(thing, bool)


def is_int_between(thing, least, most):
    """Return whether a thing is an integer from the least to the most one."""
    return is_int(thing) and least <= thing <= most


def check_value(value):
    """Raise InvalidValue if a value, or a figure, is no integer."""
    if not is_int(value):
        raise InvalidValue("a value is an integer")
