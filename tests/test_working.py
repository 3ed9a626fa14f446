"""Promise 0.5, as far as it speaks of the product of two rows."""

import unittest

from scaleyard.working import product


class ProductTest(unittest.TestCase):
    def test_plain_examples(self):
        self.assertEqual(product((3,), (4,)), 12)
        self.assertEqual(product((1, 2), (30, -4)), 22)
        self.assertEqual(product((1, 0, -5), (-7, 9, -2)), 3)

    def test_nought_and_numbers_of_any_size(self):
        self.assertEqual(product((0, 0), (10 ** 60, -5)), 0)
        self.assertEqual(product((10 ** 60, 1, -1), (10 ** 60, 2, 10 ** 70)), 10 ** 120 + 2 - 10 ** 70)

    def test_either_may_stand_first(self):
        self.assertEqual(product((1, 2, 3), (4, 5, 6)), product((4, 5, 6), (1, 2, 3)))


if __name__ == "__main__":
    unittest.main()
