"""Values that go there and back between two sides, again and again."""

from handedtext.among import period_of
from handedtext.blocks import unraised
from handedtext.checks import check_value
from handedtext.rotations import first_hit
from handedtext.sides import check_side, mirror, threshold, written


def settled(first, second, value):
    """Return ("settles", end, rounds) of what the first side writes for a value, or ("creeps", pace)."""
    check_side(first)
    check_side(second)
    check_value(value)
    creep = _creep(first, second)
    if creep != 0:
        return "creeps", creep
    start = written(first, value)
    if first[1] > second[1]:
        end, rounds = _settled_on_wide(first, second, start)
    else:
        end, rounds = _settled_on_narrow(first, second, start)
    return "settles", end, rounds


def pace(first, second):
    """Return by how much values move in a round in the long run, 0 if they settle."""
    check_side(first)
    check_side(second)
    return _creep(first, second)


def _creep(first, second):
    """Return what pace returns, without a check."""
    wide, narrow = wide_and_narrow(first, second)
    offset, step, _ = wide
    if rounds_up(wide, narrow, offset) is None:
        return step
    if rounds_up(mirror(wide), mirror(narrow), -offset) is None:
        return -step
    return 0


def wide_and_narrow(first, second):
    """Return two sides, of which the one with the greater step stands first."""
    if first[1] > second[1]:
        return first, second
    return second, first


def rounds_up(wide, narrow, value):
    """Return behind how many rounds a value that stands on the wide side is no longer raised by one, or None.

    It goes there and back by the narrow side. What this writes is less than a step of the wide side away, so that a
    round that raises a value raises it by just this step.
    """
    _, step, _ = wide
    turns = period_of(wide) // step
    found = []
    for turn in range(turns):
        place = value + step * turn
        # A round raises the value if the narrow side raises it as far as to where the wide side does not write it.
        least = threshold(wide, place + step) - place
        for start, most, period in unraised(narrow, least):
            many = first_hit(place - start, turns * step, most, period)
            if many is not None:
                found.append(turn + turns * many)
    return min(found, default=None)


def _settled_on_wide(wide, narrow, value):
    """Return where a value that stands on the wide side settles, and behind how many rounds; it has to settle."""
    _, step, _ = wide
    if written(wide, written(narrow, value)) < value:
        rounds = rounds_up(mirror(wide), mirror(narrow), -value)
        return value - step * rounds, rounds
    rounds = rounds_up(wide, narrow, value)
    return value + step * rounds, rounds


def _settled_on_narrow(narrow, wide, value):
    """Return where a value that stands on the narrow side settles, and behind how many rounds; it has to settle."""
    _, step, _ = wide
    start = written(wide, value)
    there, rounds = _settled_on_wide(wide, narrow, start)
    end = written(narrow, there)
    # What the wide side writes has settled; the value itself may come to its end only in the round behind it.
    if there > start:
        value = written(narrow, there - step)
    if there < start:
        value = written(narrow, there + step)
    if value == end:
        return end, rounds
    return end, rounds + 1
