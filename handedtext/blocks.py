"""Blocks of neighbouring values that come again in each period: those that a side does not raise, or not so far.

A block (start, most, period) holds the values that are greater than start, by their remainder, by at most most.
"""

from handedtext.among import period_of
from handedtext.rotations import first_hit
from handedtext.sides import span


def unraised(side, least=1):
    """Return the blocks of the values that a side does not raise by as much as the least rise, which is 1 or more.

    There is one for each figure of a period: those of its span that are not too far below its value.
    """
    offset, step, _ = side
    period = period_of(side)
    blocks = []
    for figure in range(period // step):
        low, high = span(side, figure)
        start = max(low, offset + step * figure - least + 1)
        blocks.append((start, high - start, period))
    return blocks


def first_in_block(block, value):
    """Return the least value, from a told one on, in a block."""
    start, most, period = block
    past = (value - start) % period
    if past <= most:
        return value
    return value + period - past


def first_in_both(one, other, value):
    """Return the least value, from a told one on, in two blocks, or None."""
    start, most, period = one
    value = first_in_block(one, value)
    begin = value - (value - start) % period
    found = first_in_block(other, value)
    if found <= begin + most:
        return found
    begin = begin + period
    other_start, other_most, other_period = other
    # A place of the one block holds a value of the other if its end is past a start there by at most both lengths.
    many = first_hit(begin + most - other_start, period, most + other_most, other_period)
    if many is None:
        return None
    return first_in_block(other, begin + period * many)
