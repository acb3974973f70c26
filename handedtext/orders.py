"""How far values come among some sides, in any order of hand-overs."""

from handedtext.among import MOST_HANDOVERS, check_sides, common_period, highest, mirrors, raisers
from handedtext.blocks import first_in_both, unraised
from handedtext.checks import check_value
from handedtext.errors import TooMany
from handedtext.gaps import widest_gap, widest_gap_of_both
from handedtext.sides import form, written

MOST_PERIOD = 100000

MOST_PERIOD_OF_ALL = 20000


def reach(sides, value):
    """Return the least and the greatest value to which a value can come, None where there is no end."""
    check_sides(sides)
    check_value(value)
    raising = raisers(sides)
    lowering = raisers(mirrors(sides))
    _check_few(raising)
    _check_few(lowering)
    least = _first_unraised(lowering, -value)
    if least is not None:
        least = -least
    return least, _first_unraised(raising, value)


def _check_few(raising):
    """Raise TooMany if there are more than two sides, with a long common period."""
    if len(raising) > 2 and common_period(raising) > MOST_PERIOD:
        raise TooMany("the common period is more than 100,000")


def _first_unraised(raising, value):
    """Return the least value, from a told one on, that none of some sides raises, or None."""
    if len(raising) == 2:
        return _first_unraised_by_two(raising[0], raising[1], value)
    # No hand-over leads past a value that no side raises, so it is enough to go up as far as a period.
    end = value + common_period(raising)
    while value < end:
        worth = highest(raising, value)
        if worth == value:
            return value
        value = worth
    return None


def _first_unraised_by_two(first, second, value):
    """Return the least value, from a told one on, that neither of two sides raises, or None."""
    found = []
    for one in unraised(first):
        for other in unraised(second):
            near = first_in_both(one, other, value)
            if near is not None:
                found.append(near)
    return min(found, default=None)


def climb(sides, value):
    """Return whether a value rises to an end or endlessly, and the numbers of the sides that raise it most."""
    check_sides(sides)
    check_value(value)
    end = value + common_period(sides)
    numbers = []
    while value < end:
        worths = [written(side, value) for side in sides]
        worth = max(worths)
        if worth <= value:
            return "end", numbers
        if len(numbers) == MOST_HANDOVERS:
            raise TooMany("there are more than 1,000 hand-overs")
        numbers.append(worths.index(worth))
        value = worth
    return "endless", numbers


def greatest_rise(sides):
    """Return by how much values can rise at most, and the least one from 0 on that can; None if there is no end."""
    check_sides(sides)
    raising = raisers(sides)
    many = common_period(raising)
    if many <= MOST_PERIOD:
        return _greatest_rise_by_trial(raising, many)
    if not _has_plain_gaps(raising):
        raise TooMany("the common period is more than 100,000")
    # The form of a side that looks at even figures with an odd step does not: it has one block.
    blocks = [unraised(form(side))[0] for side in raising]
    if len(blocks) == 1:
        return widest_gap(blocks[0])
    return widest_gap_of_both(blocks[0], blocks[1])


def _greatest_rise_by_trial(raising, many):
    """Return what greatest_rise tells, found among all values of a period."""
    ends = [value for value in range(many) if highest(raising, value) == value]
    if not ends:
        return None
    found = []
    for end, following in zip(ends, ends[1:] + [ends[0] + many]):
        found.append((end + 1 - following, (end + 1) % many))
    fall, value = min(found)
    return -fall, value


def _has_plain_gaps(raising):
    """Return whether some sides are at most two, of unlike steps, of which none looks at even figures."""
    if len(raising) > 2 or (len(raising) == 2 and raising[0][1] == raising[1][1]):
        return False
    return not any([mode == "half_even" and step % 2 == 0 for _, step, mode in raising])


def unneeded(sides):
    """Return the numbers of those sides each of which can be left out, alone, without changing any end."""
    check_sides(sides)
    many = common_period(sides)
    if many > MOST_PERIOD_OF_ALL:
        raise TooMany("the common period is more than 20,000")
    if len(sides) == 1:
        return []
    needed = {}
    for value in range(many):
        worths = [written(side, value) for side in sides]
        # A side changes an end just if it is the only one that raises, or lowers, some value.
        raising = [number for number, worth in enumerate(worths) if worth > value]
        lowering = [number for number, worth in enumerate(worths) if worth < value]
        for numbers in (raising, lowering):
            if len(numbers) == 1:
                needed[numbers[0]] = True
    return [number for number in range(len(sides)) if number not in needed]
