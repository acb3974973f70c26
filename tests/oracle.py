"""Answers that are found by trying all hand-overs, for sides with small steps."""

import collections
import itertools
import math
import random

from handedtext.sides import handed
from samples import MODES


def period(sides):
    """Return the common period of some sides."""
    return math.lcm(*[2 * step if mode == "half_even" else step for _, step, mode in sides])


def some_sides(seed, many, most_sides=4, most_step=9, modes=MODES):
    """Return so many lists of sides with small steps, always the same ones for a seed."""
    source = random.Random(seed)
    found = []
    for _ in range(many):
        found.append([
            (source.randint(-20, 20), source.randint(1, most_step), source.choice(modes))
            for _ in range(source.randint(1, most_sides))
        ])
    return found


def reached(sides, value, width):
    """Return the values, told one less and more a width, to which a value comes by any hand-overs among such ones."""
    seen = {value}
    open_ones = [value]
    while open_ones:
        here = open_ones.pop()
        for side in sides:
            there = handed(side, here)
            if there not in seen and abs(there - value) <= width:
                seen.add(there)
                open_ones.append(there)
    return seen


def reach_by_search(sides, value):
    """Return what reach tells."""
    many = period(sides)
    seen = reached(sides, value, 2 * many + 2 * max(step for _, step, _ in sides))
    least, greatest = min(seen), max(seen)
    return (None if least <= value - many else least), (None if greatest >= value + many else greatest)


def hops_by_search(sides, value):
    """Return a dict of the values from three periods below a value to as far above it that come to it.

    It tells the fewest hand-overs of each.
    """
    width = 3 * period(sides) + 2 * max(step for _, step, _ in sides)
    sources = collections.defaultdict(list)
    for start in range(value - width, value + width + 1):
        for side in sides:
            sources[handed(side, start)].append(start)
    hops = {value: 0}
    row = collections.deque([value])
    while row:
        there = row.popleft()
        for here in sources[there]:
            if here not in hops:
                hops[here] = hops[there] + 1
                row.append(here)
    return hops


def before_by_search(sides, value):
    """Return what before tells, but for TooMany."""
    hops = hops_by_search(sides, value)
    many = period(sides)
    return (
        None if value - many in hops else min(hops),
        None if value + many in hops else max(hops),
    )


def before_is_too_many(hops, value, many):
    """Return whether before raises TooMany, by what hops_by_search tells, for sides with so long a common period."""
    near = [start for start in hops if abs(start - value) <= many]
    few = [start for start in near if hops[start] <= 1000]
    more = [start for start in near if hops[start] <= 1001]
    return min(more) < min(few) or max(more) > max(few)


def routes_by_search(sides, start, width):
    """Return a dict of the least of the shortest lists of numbers of sides by which start comes to each value."""
    routes = {start: []}
    row = collections.deque([start])
    while row:
        here = row.popleft()
        for number, side in enumerate(sides):
            there = handed(side, here)
            if there not in routes and abs(there - start) <= width:
                routes[there] = routes[here] + [number]
                row.append(there)
    return routes


def greatest_rise_by_search(sides):
    """Return what greatest_rise tells, but for TooMany."""
    best = (-1, None)
    for value in range(period(sides)):
        _, greatest = reach_by_search(sides, value)
        if greatest is None:
            return None
        if greatest - value > best[0]:
            best = (greatest - value, value)
    return best


def unneeded_by_search(sides):
    """Return what unneeded tells, but for TooMany."""
    if len(sides) == 1:
        return []
    found = []
    for number in range(len(sides)):
        rest = sides[:number] + sides[number + 1:]
        if all(reach_by_search(sides, value) == reach_by_search(rest, value) for value in range(period(sides))):
            found.append(number)
    return found


def settled_by_search(first, second, value):
    """Return what settled tells."""
    many = period([first, second])
    values = [handed(first, value)]
    # From a value that moves only in one direction, a period of rounds leads past each other one.
    while len(values) <= 2 * many + 2:
        following = handed(first, handed(second, values[-1]))
        if following == values[-1]:
            return "settles", following, len(values) - 1
        values.append(following)
    moved, rest = divmod(values[-1] - values[-1 - many], many)
    assert rest == 0
    return "creeps", moved


def within_by_search(sides, value, many):
    """Return what within tells, but for TooMany."""
    seen = {value}
    latest = seen
    for _ in range(many):
        latest = {handed(side, here) for here in latest for side in sides} - seen
        if not latest:
            break
        seen = seen | latest
    return min(seen), max(seen)


def efforts_by_search(sides, value):
    """Return what efforts tells."""
    routes = routes_by_search(sides, value, 2 * period(sides) + 2 * max(step for _, step, _ in sides))
    return tuple(None if end is None else len(routes[end]) for end in reach_by_search(sides, value))


def meeting_by_search(sides, one, other):
    """Return what meeting tells, by all pairs of remainders and differences."""
    many = period(sides)
    seen = {(one % many, other - one)}
    row = collections.deque([(one, other, [])])
    while row:
        one, other, numbers = row.popleft()
        if one == other:
            return numbers
        for number, side in enumerate(sides):
            pair = handed(side, one), handed(side, other)
            alike = pair[0] % many, pair[1] - pair[0]
            if alike not in seen:
                seen.add(alike)
                row.append((*pair, numbers + [number]))
    return None


def fewest_places_by_search(sides, side):
    """Return what fewest_places tells."""
    offset, step, mode = side
    for places in range(5):
        if step % 10 ** places == 0:
            more = sides + [(offset, step // 10 ** places, mode)]
            if all(reach_by_search(more, value) == reach_by_search(sides, value) for value in range(period(more))):
                return places
    return None


def once_by_search(sides, value):
    """Return what once tells."""
    ends = {}
    for order in itertools.permutations(range(len(sides))):
        end = value
        for number in order:
            end = handed(sides[number], end)
        ends.setdefault(end, list(order))
    return sorted(ends.items())


def order_matters_by_search(sides, value):
    """Return what order_matters tells."""
    for start in range(value, value + period(sides)):
        if len(once_by_search(sides, start)) > 1:
            return start
    return None


def calm_by_search(sides):
    """Return what calm tells."""
    for many in range(len(sides) + 1):
        for numbers in itertools.combinations(range(len(sides)), many):
            rest = [side for number, side in enumerate(sides) if number not in numbers]
            if None not in reach_by_search(rest, 0):
                return list(numbers)


def exchange_by_search(first, second, value):
    """Return what exchange tells."""
    for start in range(value, value + period([first, second])):
        if handed(second, handed(first, start)) != handed(first, handed(second, start)):
            return start
    return None
