"""Whether the order of two sides matters."""

from handedtext.checks import check_value
from handedtext.sides import check_side, figure_of, span, stands, threshold


def exchange(first, second, value):
    """Return the least value, from a told one on, for which the order of two sides matters, or None."""
    check_side(first)
    check_side(second)
    check_value(value)
    wide, narrow = first, second
    if first[1] < second[1]:
        wide, narrow = second, first
    figure = figure_of(wide, value)
    # Where each value that stands on the wide side stands on the narrow one, all is alike again behind two
    # figures of the wide one; else one of two neighbouring figures stands for a value that does not.
    for near in range(figure, figure + 3):
        found = _first_at(wide, narrow, near, value)
        if found is not None:
            return found
    return None


def _first_at(wide, narrow, figure, value):
    """Return the least value, from a told one on, that comes to a figure and for which the order matters, or None."""
    least, greatest = span(wide, figure)
    start = max(least, value)
    offset, step, _ = wide
    # What the narrow side writes for a value that does not stand on it is too near to stand on the wide one.
    if not stands(narrow, offset + step * figure):
        return start
    # Here the wide side's value stays, so the order matters for those whom the narrow side leads out of the span.
    if start < threshold(narrow, least):
        return start
    start = max(start, threshold(narrow, greatest + 1))
    if start <= greatest:
        return start
    return None
