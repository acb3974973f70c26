"""Things that several tests pass: what is no integer, and sides."""

import itertools

from handedtext.sides import mirror


def nested(levels):
    """Return a list of lists, so many levels deep."""
    thing = []
    for _ in range(levels - 1):
        thing = [thing]
    return thing


MODES = ("down", "up", "half_down", "half_up", "half_even")

NO_INTEGERS = (
    None, True, False, "", "0", "1", "down", " \t\n", (), (0,), (0, "up"), [], [0], [0, 1], {}, {0: 1}, {"a": [None]},
    nested(50), [0] * 2999, ["a"] * 2999, "9" * 2000,
)

SIDE = (0, 10, "up")


def wrong_sides():
    """Return things that are no sides."""
    wrong = list(NO_INTEGERS) + [0, 1, -1, 10 ** 199]
    wrong.extend([
        [0, 10, "up"], (0, 10), (0, 10, "up", 0), (0, 10, "up", None), ("up",), ((0, 10, "up"),),
        {0: 0, 1: 10, 2: "up"}, (10, "up"), ("up", 10, 0), (0, "up", 10), "up",
    ])
    for thing in NO_INTEGERS:
        wrong.append((thing, 10, "up"))
        wrong.append((0, thing, "up"))
        if thing != "down":
            wrong.append((0, 10, thing))
    for mode in (
            0, 1, -1, "Up", "UP", "up ", " up", "half", "half_", "halfdown", "half-up", "even", "half_odd", "updown"):
        wrong.append((0, 10, mode))
    for offset in (10 ** 40 + 1, -10 ** 40 - 1, 10 ** 199, -10 ** 199):
        wrong.append((offset, 10, "up"))
    for step in (0, -1, -10, 10 ** 30 + 1, -10 ** 30, 10 ** 199, -10 ** 199):
        wrong.append((0, step, "up"))
    return wrong


def small_sides(steps, offsets):
    """Return the sides of each mode with these steps and offsets."""
    return [(offset, step, mode) for offset, step, mode in itertools.product(offsets, steps, MODES)]


BIG_SIDES = tuple(
    (offset, step, mode)
    for offset in (-10 ** 40, 0, 10 ** 40)
    for step in (1, 2, 10 ** 30 - 1, 10 ** 30)
    for mode in MODES
)


def wrong_lists_of_sides():
    """Return things that are no lists of 1 to 4 sides."""
    wrong = list(NO_INTEGERS) + [0, 1, -1, 10 ** 199, SIDE, (SIDE,), (SIDE, SIDE), {0: SIDE}, [[SIDE]], [list(SIDE)]]
    wrong.extend([[SIDE] * 5, [SIDE] * 6, [SIDE] * 1000])
    for thing in wrong_sides():
        wrong.extend([[thing], [SIDE, thing], [thing, SIDE], [SIDE, SIDE, SIDE, thing]])
    return wrong


# To 25389 some values come by 1,000 hand-overs and none by more, to 25420 some by 1,001.
SLOW = [(0, 31, "up"), (0, 37, "up"), (0, 41, "up")]


def mirrored(sides):
    """Return the mirrors of some sides."""
    return [mirror(side) for side in sides]


# Sides with steps of thirty digits and offsets of forty, whose steps have no common divisor but 1.
HUGE = 10 ** 30 - 11
HUGE_OTHER = 10 ** 30 - 57
