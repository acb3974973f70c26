"""Limits: how far values come by so many hand-overs, by how many to the end, and what never matters."""

from handedtext.among import check_sides, common_period, highest, mirrors, raisers
from handedtext.backs import rounds_up, wide_and_narrow
from handedtext.checks import check_value, is_int_between
from handedtext.errors import InvalidNumber, InvalidSides, TooMany
from handedtext.orders import reach, unneeded
from handedtext.sides import check_side, stands, written

MOST_NUMBER = 10 ** 40

MOST_ROWS = 10000

MOST_PERIOD_TO_MEET = 120

MOST_DIFFERENCE = 240

MOST_SIDES_AHEAD = 3


def within(sides, value, many):
    """Return the least and the greatest value to which a value can come by at most so many hand-overs."""
    check_sides(sides)
    check_value(value)
    if not is_int_between(many, 0, MOST_NUMBER):
        raise InvalidNumber("a number of hand-overs is an integer from 0 to 10 ** 40")
    greatest = _highest_within(sides, value, many)
    return -_highest_within(mirrors(sides), -value, many), greatest


def _highest_within(sides, value, many):
    """Return the greatest value to which a value can come by at most so many hand-overs."""
    period = common_period(sides)
    values = [value]
    numbers = {value % period: 0}
    for number in range(1, min(many, MOST_ROWS) + 1):
        value = highest(sides, value)
        place = value % period
        if place in numbers:
            return _continued(values[numbers[place]:], value, many - numbers[place])
        numbers[place] = number
        values.append(value)
    if many > MOST_ROWS:
        raise TooMany("no remainder comes again within 10,000 hand-overs")
    return value


def _continued(values, following, many):
    """Return the value so many hand-overs behind the first of some, the following of which is alike the first one."""
    rounds, number = divmod(many, len(values))
    return values[number] + rounds * (following - values[0])


def efforts(sides, value):
    """Return by how few hand-overs a value comes to the least and the greatest one, None where there is no end."""
    least, greatest = reach(sides, value)
    down = None if least is None else _fewest_up(raisers(mirrors(sides)), -value)
    up = None if greatest is None else _fewest_up(raisers(sides), value)
    return down, up


def _fewest_up(raising, value):
    """Return by how few hand-overs a value comes to the greatest one; there has to be an end."""
    if len(raising) == 2:
        return _fewest_up_by_two(raising[0], raising[1], value)
    many = 0
    worth = highest(raising, value)
    while worth > value:
        many += 1
        value = worth
        worth = highest(raising, value)
    return many


def _fewest_up_by_two(first, second, value):
    """Return what the function above does for two sides, of steps of any size."""
    wide, narrow = wide_and_narrow(first, second)
    many = 0
    while not stands(wide, value):
        worth = highest([wide, narrow], value)
        if worth == value:
            return many
        many += 1
        value = worth
    # From here on the sides raise it by turns: in each round by a step of the wide one.
    rounds = rounds_up(wide, narrow, value)
    value = value + wide[1] * rounds
    many = many + 2 * rounds
    if written(narrow, value) > value:
        return many + 1
    return many


def meeting(sides, one, other):
    """Return the least of the shortest lists of numbers of sides by which two values become the same, or None."""
    check_sides(sides)
    check_value(one)
    check_value(other)
    period = common_period(sides)
    if period > MOST_PERIOD_TO_MEET:
        raise TooMany("the common period is more than 120")
    if abs(one - other) > MOST_DIFFERENCE:
        raise TooMany("the values differ by more than 240")
    # All goes on alike a period later, so a pair is told by a remainder and the difference, which stays bounded.
    pairs = [(min(one, other) % period, abs(one - other))]
    ways = {pairs[0]: None}
    at = 0
    while at < len(pairs):
        low, apart = pairs[at]
        if apart == 0:
            return _way_to(ways, pairs[at])
        for number, side in enumerate(sides):
            there = written(side, low)
            pair = there % period, written(side, low + apart) - there
            if pair not in ways:
                ways[pair] = pairs[at], number
                pairs.append(pair)
        at += 1
    return None


def _way_to(ways, pair):
    """Return the numbers that lead to a pair, by a dict that tells the one ahead of each and the number from there."""
    numbers = []
    way = ways[pair]
    while way is not None:
        pair, number = way
        numbers.append(number)
        way = ways[pair]
    return numbers[::-1]


def fewest_places(sides, side):
    """Return the fewest digits more with which a side changes no end of some sides, or None."""
    check_sides(sides)
    if len(sides) > MOST_SIDES_AHEAD:
        raise InvalidSides("sides ahead of a further one are a list of 1 to 3 sides")
    check_side(side)
    offset, step, mode = side
    places = 0
    # The period is longest for the side itself, so that the first call tells whether there is too much to look at.
    while len(sides) not in unneeded(sides + [(offset, step, mode)]):
        if step % 10 != 0:
            return None
        step = step // 10
        places += 1
    return places
