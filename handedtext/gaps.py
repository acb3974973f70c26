"""The widest gaps between the values that are in one or in two blocks, also of periods of thirty digits."""

from math import gcd

from handedtext.rotations import first_hit


def widest_gap(block):
    """Return how many values lie in a gap of a block, and the least one from 0 on that begins one."""
    start, most, period = block
    return period - most - 1, (start + most + 1) % period


def widest_gap_of_both(one, other):
    """Return how many values lie in a widest gap between those in two blocks, and the least from 0 on that begins one.

    None if there are no values in both. Each block is a single value of its period or, but for one, a half of it;
    the periods differ, and one is greater than 4.
    """
    if one[1] > 0 and other[1] > 0:
        if one[2] > other[2]:
            return _widest_of_halves(one, other)
        return _widest_of_halves(other, one)
    if one[1] > 0:
        return _widest_of_points(other, one)
    return _widest_of_points(one, other)


def _widest_of_points(points, block):
    """Return the answer for single values in the place of one block.

    They are looked at one behind the other: each moves by the same step among the places in the other block's period
    to which they come, and the gaps are told by when they come back to the places in the block.
    """
    start, _, period = points
    other_start, other_most, other_period = block
    shared = gcd(period, other_period)
    shift = (start - other_start) % shared
    if shift > other_most:
        return None
    many = other_period // shared
    most = (other_most - shift) // shared
    step = period // shared
    longest, low, high = _longest_return(step, most, many)
    first = -((start + 1) // period)
    place = (start + period * first - other_start - shift) // shared
    first = first + first_hit(place - low, step, high - low, many)
    return period * longest - 1, start + period * first + 1


def _longest_return(step, most, modulus):
    """Return how many steps at most lead from a place 0 .. most to such a place again, and from which (low, high) on.

    Step and modulus have no common divisor. From a place one comes back by the fewest steps that lead up by at most
    most, or by the fewest that lead down so, or, if both lead out, by both together.
    """
    up = first_hit(step, step, most, modulus) + 1
    down = first_hit(-step, -step, most, modulus) + 1
    rise = step * up % modulus
    fall = -step * down % modulus
    if most - rise + 1 < fall:
        return up + down, most - rise + 1, fall - 1
    if up > down:
        return up, 0, most - rise
    if up < down:
        return down, fall, most
    return up, 0, most


def _widest_of_halves(wide, narrow):
    """Return the answer for two blocks of half a period, the greater period first.

    As the steps differ, no gap of the narrow block is as long as a place of the wide one, so each of these holds values
    of both. A widest gap leads from the end of such a place to the next one, longer by as much of the narrow gaps as
    the ends lie in.
    """
    start, most, period = wide
    other_start, other_most, other_period = narrow
    end = start + most
    longest, runs = _longest_overhangs(period - most, end - other_start, period, narrow)
    first = -((end + 1) // period)
    if _gap_start(end + period * first, narrow) < 0:
        first = first + 1
    found = []
    for low, high in runs:
        place = end + period * first - other_start
        found.append(first_hit(place - low, period, high - low, other_period))
    first = first + min(found)
    return period - most - 1 + longest, _gap_start(end + period * first, narrow)


def _gap_start(end, narrow):
    """Return the least value of the gap that follows the end of a place of the wide block."""
    start, most, period = narrow
    past = (end - start) % period
    return end + 1 - max(0, past - most)


def _longest_overhangs(across, end, step, narrow):
    """Return how many values at most a gap has beyond those between two places of the wide block, and at which ends.

    These are runs (low, high) of remainders of the end by the narrow block's period: they may hold some to which the
    end never comes. Across is from the end to the next start.
    """
    _, most, period = narrow
    shared = gcd(step, period)
    turns = sorted([0, most + 1, (most + 1 - across) % period, period])
    found = []
    for number in range(len(turns) - 1):
        # Between two turns the overhang falls and is none then, or stays and grows then: its greatest values stand at
        # an end, or everywhere.
        low = turns[number] + (end - turns[number]) % shared
        high = turns[number + 1] - 1
        high = high - (high - end) % shared
        if low <= high:
            found.append((_overhang(low, across, narrow), low, low))
            found.append((_overhang(high, across, narrow), high, high))
            if found[-1][0] == found[-2][0]:
                found.append((found[-1][0], low, high))
    longest = max([many for many, _, _ in found])
    return longest, [(low, high) for many, low, high in found if many == longest]


def _overhang(past, across, narrow):
    """Return how many values a gap has beyond those between two places, by the remainder of the first one's end."""
    _, most, period = narrow
    ahead = max(0, past - most)
    behind = (past + across) % period
    if behind > most:
        return ahead + period - behind
    return ahead
