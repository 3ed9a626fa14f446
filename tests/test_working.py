"""Promises 0.5 and 0.6, as far as they speak of the product of two rows and of what weights make."""

import math
import unittest

from samples import WIDES, Draw, drawn_yards
from scaleyard.working import common_divisor, product, shortened, turned, weighted, weighted_limit
from sums import HUGE, weights_limit, weights_row


class ProductTest(unittest.TestCase):
    def test_plain_examples(self):
        self.assertEqual(product((3,), (4,)), 12)
        self.assertEqual(product((1, 2), (30, -4)), 22)
        self.assertEqual(product((1, 0, -5), (-7, 9, -2)), 3)

    def test_nought_and_numbers_of_any_size(self):
        self.assertEqual(product((0, 0), (10 ** 60, -5)), 0)
        self.assertEqual(product((10 ** 60, 1, -1), (10 ** 60, 2, 10 ** 70)), 10 ** 120 + 2 - 10 ** 70)

    def test_either_may_stand_first(self):
        self.assertEqual(product((1, 2, 3), (4, 5, 6)), product((4, 5, 6), (1, 2, 3)))


class WeightedTest(unittest.TestCase):
    def test_plain_examples(self):
        bounds = (((1, 2), 30), ((-1, 0), 0), ((0, -4), 7))
        self.assertEqual(weighted(bounds, (2, 0, 1), 2), ((2, 0), 67))
        self.assertEqual(weighted(bounds, (0, 0, 0), 2), ((0, 0), 0))
        self.assertEqual(weighted(bounds, (2, 2, 1), 1), ((0,), 67))
        self.assertEqual(weighted_limit(bounds, (1, 5, 2)), 44)

    def test_no_bounds(self):
        for wide in WIDES:
            self.assertEqual(weighted((), (), wide), ((0,) * wide, 0))

    def test_drawn_yards(self):
        for wide in WIDES:
            draw = Draw(wide)
            for yard in drawn_yards(wide, 50):
                weights = tuple(draw.below(draw.one_of((2, 10, HUGE))) for _ in yard)
                due = (weights_row(yard, weights, wide), weights_limit(yard, weights))
                self.assertEqual(weighted(yard, weights, wide), due)


class ShortenedTest(unittest.TestCase):
    def test_turned(self):
        self.assertEqual(turned((1, 0, -HUGE)), (-1, 0, HUGE))

    def test_common_divisor(self):
        draw = Draw(1)
        for _ in range(300):
            numbers = [draw.between(-20, 20) * draw.one_of((0, 1, 6, HUGE)) for _ in range(draw.below(5))]
            self.assertEqual(common_divisor(numbers), math.gcd(*numbers), numbers)

    def test_shortened(self):
        self.assertEqual(shortened([6, -4, 0, 10]), (3, -2, 0, 5))
        self.assertEqual(shortened([0, 0]), (0, 0))
        self.assertEqual(shortened([]), ())
        self.assertEqual(shortened([HUGE, 3 * HUGE]), (1, 3))


if __name__ == "__main__":
    unittest.main()
