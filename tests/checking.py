"""What the tests of several files ask of answers, by the tests' own sums."""

import copy
import unittest

from sums import kept_by_fractions, sum_at, weights_limit, weights_row


class Checks(unittest.TestCase):
    def plain(self, thing):
        """Nothing but tuples, texts, whole numbers and None."""
        self.assertIn(thing.__class__, (tuple, str, int, None.__class__), thing)
        if isinstance(thing, tuple):
            for part in thing:
                self.plain(part)

    def told(self, ask, *given):
        """An answer that is plain, is told again, and changes nothing of what is handed in."""
        before = copy.deepcopy(given)
        answer = ask(*given)
        self.assertEqual(given, before)
        self.assertEqual(ask(*copy.deepcopy(given)), answer, given)
        self.assertEqual(ask(*given), answer, given)
        if answer is not True and answer is not False:
            self.plain(answer)
        return answer

    def is_row(self, row, wide):
        self.assertIs(row.__class__, tuple)
        self.assertEqual([part.__class__ for part in row], [int] * wide)

    def is_point(self, point, wide):
        self.assertIs(point.__class__, tuple)
        self.assertEqual(len(point), 2)
        self.is_row(point[0], wide)
        self.is_divisor(point[1])

    def is_divisor(self, divisor):
        self.assertIs(divisor.__class__, int)
        self.assertGreaterEqual(divisor, 1)

    def is_point_of(self, bounds, wide, point):
        self.is_point(point, wide)
        self.assertTrue(kept_by_fractions(bounds, point), (bounds, point))

    def is_weights(self, bounds, weights):
        self.is_row(weights, len(bounds))
        self.assertTrue(all(weight >= 0 for weight in weights), weights)

    def is_clash(self, bounds, wide, weights):
        self.is_weights(bounds, weights)
        self.assertEqual(weights_row(bounds, weights, wide), (0,) * wide, (bounds, weights))
        self.assertLess(weights_limit(bounds, weights), 0, (bounds, weights))
        self.assertLessEqual(len([weight for weight in weights if weight > 0]), wide + 1, (bounds, weights))

    def makes_row(self, bounds, wide, weights, divisor, row):
        self.is_weights(bounds, weights)
        self.is_divisor(divisor)
        self.assertEqual(weights_row(bounds, weights, wide), tuple(divisor * number for number in row), bounds)

    def is_way(self, bounds, wide, way, aim):
        self.is_row(way, wide)
        self.assertTrue(all(sum_at(row, way) <= 0 for row, limit in bounds), (bounds, way))
        self.assertGreater(sum_at(aim, way), 0, (bounds, way, aim))
