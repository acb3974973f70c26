"""Figures written as text, and texts read as figures."""

from handedtext.checks import check_value, is_int_between
from handedtext.errors import InvalidPlaces, InvalidStyle, InvalidText

DIGITS = "0123456789"

MOST_PLACES = 60

MOST_WIDTH = 200


def text_of(figure, places, *, sign=False, group=False, width=0):
    """Return the text of a figure with a number of digits behind the point."""
    check_value(figure)
    if not is_int_between(places, 0, MOST_PLACES):
        raise InvalidPlaces("places are an integer from 0 to 60")
    _check_style(sign, group, width)
    digits = str(abs(figure)).zfill(places + 1)
    point = len(digits) - places
    text = digits[:point]
    if group:
        text = _grouped(text)
    if places > 0:
        text = text + "." + digits[point:]
    return (_mark(figure, sign) + text).rjust(width)


def _check_style(sign, group, width):
    """Raise InvalidStyle if an option of text_of is none."""
    if not isinstance(sign, bool) or not isinstance(group, bool):
        raise InvalidStyle("sign and group are True or False")
    if not is_int_between(width, 0, MOST_WIDTH):
        raise InvalidStyle("a width is an integer from 0 to 200")


def _grouped(digits):
    """Return digits with a comma ahead of each three from the right that have others ahead of them."""
    first = (len(digits) - 1) % 3 + 1
    parts = [digits[:first]]
    for at in range(first, len(digits), 3):
        parts.append(digits[at:at + 3])
    return ",".join(parts)


def _mark(figure, sign):
    """Return the sign that stands ahead of a figure's digits, or no character."""
    if figure < 0:
        return "-"
    if figure > 0 and sign:
        return "+"
    return ""


def read_text(text):
    """Return the figure and the places for which a text stands."""
    if not isinstance(text, str):
        raise InvalidText(0)
    start = len(text) - len(text.lstrip(" "))
    whole = start
    if text[start:start + 1] in ("-", "+"):
        whole = start + 1
    point = _past_whole(text, whole)
    end = _past_places(text, point)
    if end < len(text):
        raise InvalidText(end)
    figure = int(text[whole:end].replace(",", "").replace(".", ""))
    if text[start] == "-":
        figure = -figure
    return figure, max(0, end - point - 1)


def _past_whole(text, at):
    """Return the place behind the digits and commas ahead of the point, which begin at a place."""
    end = _past_digits(text, at, len(text))
    if end == at:
        raise InvalidText(at)
    if text[at] == "0":
        return at + 1
    if end - at > 3:
        return end
    return _past_groups(text, end)


def _past_groups(text, at):
    """Return the place behind the groups of a comma and three digits from a place on."""
    while text[at:at + 1] == ",":
        end = _past_digits(text, at + 1, 3)
        if end < at + 4:
            raise InvalidText(end)
        at = end
    return at


def _past_places(text, at):
    """Return the place behind the point and its digits, or the told one if no point stands there."""
    if text[at:at + 1] != ".":
        return at
    end = _past_digits(text, at + 1, MOST_PLACES)
    if end == at + 1:
        raise InvalidText(end)
    return end


def _past_digits(text, at, most):
    """Return the place behind the digits from a place on, as far as they are not more than the most."""
    end = at
    while end < len(text) and end - at < most and text[end] in DIGITS:
        end += 1
    return end
