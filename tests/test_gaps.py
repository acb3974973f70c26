"""What the answers for steps of thirty digits rest on, compared with searches for small ones."""

import itertools
import math
import unittest

from handedtext.blocks import first_in_block, first_in_both, unraised
from handedtext.gaps import widest_gap, widest_gap_of_both
from handedtext.rotations import first_hit
from handedtext.sides import form, handed
from samples import MODES


def holds(block, value):
    """Return whether a value is in a block."""
    start, most, period = block
    return (value - start) % period <= most


def widest_by_search(blocks):
    """Return the widest gap of values that are in all of some blocks, and the least value from 0 on that begins one."""
    many = math.lcm(*[period for _, _, period in blocks])
    inside = [value for value in range(many) if all(holds(block, value) for block in blocks)]
    if not inside:
        return None
    gaps = []
    for value, following in zip(inside, inside[1:] + [inside[0] + many]):
        gaps.append((following - value - 1, -((value + 1) % many)))
    longest, begin = max(gaps)
    return longest, -begin


class RotationsTest(unittest.TestCase):

    def test_first_hit(self):
        for modulus in range(1, 20):
            for step, start, most in itertools.product(
                    range(-modulus, modulus + 2), range(-2, modulus + 1), range(modulus + 1)):
                found = [many for many in range(modulus) if (start + step * many) % modulus <= most]
                answer = found[0] if found else None
                self.assertEqual(first_hit(start, step, most, modulus), answer, (start, step, most, modulus))

    def test_long_ones(self):
        # Neighbouring numbers of a Fibonacci row need the most calls, and steps of almost a whole circle the other way.
        one, other = 1, 1
        while other < 10 ** 61:
            one, other = other, one + other
        for step in (one, other - one, other - 1, 1):
            many = first_hit(5, step, 0, other)
            self.assertEqual((5 + step * many) % other, 0)
            self.assertTrue(0 <= many < other)
        self.assertIsNone(first_hit(-1, 2, 0, 10 ** 60))


class BlocksTest(unittest.TestCase):

    def test_unraised(self):
        for offset, step, mode in itertools.product((-7, 0, 3), range(1, 9), MODES):
            side = (offset, step, mode)
            blocks = unraised(side)
            for value in range(-30, 30):
                self.assertEqual(any(holds(block, value) for block in blocks), handed(side, value) <= value, side)

    def test_first_ones(self):
        blocks = [(start, most, period) for period in (1, 2, 5, 6, 9) for start in (-3, 4) for most in range(period)]
        for one in blocks:
            for value in range(-12, 12):
                found = first_in_block(one, value)
                self.assertEqual(found, min(told for told in range(value, value + one[2]) if holds(one, told)))
        for one, other in itertools.product(blocks, repeat=2):
            for value in (-5, 0, 7):
                end = value + one[2] * other[2]
                told = [here for here in range(value, end) if holds(one, here) and holds(other, here)]
                self.assertEqual(first_in_both(one, other, value), told[0] if told else None, (one, other, value))


class GapsTest(unittest.TestCase):

    def test_one(self):
        for period in range(1, 9):
            for most, start in itertools.product(range(period - 1), range(-9, 9)):
                block = (start, most, period)
                self.assertEqual(widest_gap(block), widest_by_search([block]), block)

    def test_both(self):
        for steps in itertools.product(range(2, 14), repeat=2):
            if steps[0] == steps[1] or max(steps) < 5:
                continue
            for modes in itertools.product(("up", "half_down", "half_up"), repeat=2):
                for offset, other in itertools.product(range(steps[0]), range(-1, steps[1] - 1, 3)):
                    sides = [(offset, steps[0], modes[0]), (other, steps[1], modes[1])]
                    if "down" in [form(side)[2] for side in sides]:
                        continue
                    blocks = [unraised(side)[0] for side in sides]
                    self.assertEqual(widest_gap_of_both(*blocks), widest_by_search(blocks), sides)

    def test_single_values_beside_any_block(self):
        for period, other_period in itertools.product(range(2, 10), repeat=2):
            for most, start in itertools.product(range(other_period - 1), range(other_period)):
                blocks = [(1, 0, period), (start, most, other_period)]
                answer = widest_by_search(blocks)
                self.assertEqual(widest_gap_of_both(*blocks), answer, blocks)
                self.assertEqual(widest_gap_of_both(*blocks[::-1]), answer, blocks)


if __name__ == "__main__":
    unittest.main()
