"""Hand-overs by each of some sides just once, and which sides keep values from coming to an end."""

from handedtext.among import check_sides, common_period
from handedtext.checks import check_value
from handedtext.errors import TooMany
from handedtext.orders import reach
from handedtext.sides import written

MOST_PERIOD_OF_ORDERS = 2000


def once(sides, value):
    """Return the ends at which a value can stand behind each side just once, each with the least order to there."""
    check_sides(sides)
    check_value(value)
    ends = _ends(sides, _orders(len(sides)), value)
    return [(end, ends[end]) for end in sorted(ends)]


def order_matters(sides, value):
    """Return the least value, from a told one on, for which the order of the sides matters, or None."""
    check_sides(sides)
    check_value(value)
    many = common_period(sides)
    if many > MOST_PERIOD_OF_ORDERS:
        raise TooMany("the common period is more than 2,000")
    orders = _orders(len(sides))
    for start in range(value, value + many):
        if len(_ends(sides, orders, start)) > 1:
            return start
    return None


def _orders(many):
    """Return the ascending list of the orders of so many sides."""
    orders = [[]]
    for _ in range(many):
        orders = [order + [number] for order in orders for number in range(many) if number not in order]
    return orders


def _ends(sides, orders, value):
    """Return a dict of the ends of some orders, each with the first order that leads there."""
    ends = {}
    for order in orders:
        end = value
        for number in order:
            end = written(sides[number], end)
        if end not in ends:
            ends[end] = order
    return ends


def calm(sides):
    """Return the numbers of the fewest sides to be left out so that no value creeps without end."""
    check_sides(sides)
    left_out = [[]]
    while True:
        for numbers in left_out:
            if _are_calm([side for number, side in enumerate(sides) if number not in numbers]):
                return numbers
        left_out = _one_more(left_out, len(sides))


def _are_calm(sides):
    """Return whether no value creeps without end among some sides."""
    least, greatest = reach(sides, 0)
    return least is not None and greatest is not None


def _one_more(lists, many):
    """Return the ascending list of those lists of numbers that have one more, below so many, than these."""
    return [numbers + [number] for numbers in lists for number in range(many) if number > max(numbers, default=-1)]
