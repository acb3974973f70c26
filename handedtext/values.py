"""Sides, and lists of some, as values that do not change."""

from handedtext.among import check_sides, mirrors
from handedtext.checks import check_value, is_int
from handedtext.errors import InvalidSides
from handedtext.orders import reach
from handedtext.sides import check_side, form, handed, mirror, stands
from handedtext.ways import before, route


class Side:
    """A side that does not change; two are equal if they write the same value for each value."""

    def __init__(self, data):
        check_side(data)
        self._data = data
        self._form = form(data)

    @property
    def data(self):
        """The side as a tuple (offset, step, mode)."""
        return self._data

    def __call__(self, value):
        return handed(self._data, value)

    def __getitem__(self, figure):
        check_value(figure)
        offset, step, _ = self._data
        return offset + step * figure

    def __iter__(self):
        raise TypeError("a side is not iterated over")

    def __contains__(self, value):
        return is_int(value) and stands(self._data, value)

    def __eq__(self, other):
        return isinstance(other, Side) and self._form == other._form

    def __neg__(self):
        return Side(mirror(self._data))

    def __or__(self, other):
        return Sides([self._data] + _listed(other))


class Sides:
    """A list of 1 to 4 sides that does not change; two are equal if each side of one is equal to one of the other."""

    def __init__(self, sides):
        check_sides(sides)
        self._sides = list(sides)
        self._forms = sorted(set([form(side) for side in sides]))

    @property
    def sides(self):
        """A new list of the sides, each as a tuple."""
        return list(self._sides)

    def __len__(self):
        return len(self._sides)

    def __call__(self, value):
        return reach(self._sides, value)

    def __getitem__(self, value):
        return before(self._sides, value)

    def __iter__(self):
        raise TypeError("sides are not iterated over")

    def lead_to(self, start, value):
        """Return the least of the shortest lists of numbers of the sides that lead from start to a value, or None."""
        return route(self._sides, start, value)

    def __contains__(self, side):
        return isinstance(side, Side) and form(side.data) in self._forms

    def __eq__(self, other):
        return isinstance(other, Sides) and self._forms == other._forms

    def __neg__(self):
        return Sides(mirrors(self._sides))

    def __or__(self, other):
        return Sides(self._sides + _listed(other))

    def __sub__(self, other):
        forms = [form(side) for side in _listed(other)]
        return Sides([side for side in self._sides if form(side) not in forms])


def _listed(thing):
    """Return the list of the sides of a Side or a Sides."""
    if isinstance(thing, Side):
        return [thing.data]
    if isinstance(thing, Sides):
        return thing.sides
    raise InvalidSides("a Side or a Sides has to stand here")
