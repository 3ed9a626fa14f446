"""Promises 0.2 (a), 0.3, 0.5, 0.6, 2.2 and 2.3: point_in and clash."""

import itertools
import unittest

from checking import Checks
from samples import LARGEST, WIDES, all_small_yards, drawn_yards, named_yards, row_of, turned_signs, units
from scaleyard.points import clash, point_in
from sums import HUGE, has_point


class PointsTest(Checks):
    def one_of_both(self, yard, wide):
        """That just one is there is shown by itself: a clash leaves no room for a point."""
        point = self.told(point_in, yard, wide)
        weights = self.told(clash, yard, wide)
        self.assertEqual((point is None) + (weights is None), 1, (yard, point, weights))
        if weights is None:
            self.is_point_of(yard, wide, point)
        else:
            self.is_clash(yard, wide, weights)
        return weights is None

    def test_the_yard_without_bounds_has_a_point(self):
        for wide in WIDES:
            self.assertTrue(self.one_of_both((), wide))

    def test_plain_examples(self):
        self.assertTrue(self.one_of_both((((1,), 3), ((-1,), -3)), 1))
        self.assertFalse(self.one_of_both((((1,), 3), ((-1,), -4)), 1))
        self.assertTrue(self.one_of_both((((2, 0), 1), ((-2, 0), -1), ((0, 3), 1), ((0, -3), -1)), 2))
        self.assertFalse(self.one_of_both((((1, 1), 1), ((-1, 0), -1), ((0, -1), -1)), 2))
        self.assertFalse(self.one_of_both((((1, 1, 1), -1), ((-1, 0, 0), 0), ((0, -1, 0), 0), ((0, 0, -1), 0)), 3))
        self.assertTrue(self.one_of_both((((1, 1, 1), 0), ((-1, 0, 0), 0), ((0, -1, 0), 0), ((0, 0, -1), 0)), 3))

    def test_points_between_whole_numbers(self):
        self.assertTrue(self.one_of_both((((7,), 1), ((-7,), -1)), 1))
        self.assertFalse(self.one_of_both((((LARGEST,), 1), ((1 - LARGEST,), -1)), 1))
        self.assertTrue(self.one_of_both((((LARGEST - 1,), 1), ((-LARGEST,), -1)), 1))
        for wide in WIDES:
            tight = tuple((tuple(7 * number for number in unit), 3) for unit in units(wide))
            yard = tight + tuple((turned_signs(row), -limit) for row, limit in tight)
            self.assertTrue(self.one_of_both(yard, wide))

    def test_named_yards(self):
        for wide in WIDES:
            for yard in named_yards(wide):
                self.assertIs(self.one_of_both(yard, wide), has_point(yard, wide), yard)

    def test_all_small_yards(self):
        several = [(1, many, (-2, -1, 0, 1, 3)) for many in (1, 2, 3)]
        several += [(2, 2, (-1, 0, 2)), (2, 3, (-1, 0, 1)), (3, 2, (-1, 0, 1))]
        for wide, many, numbers in several:
            for yard in all_small_yards(wide, many, numbers):
                self.one_of_both(yard, wide)

    def test_drawn_yards(self):
        for wide in WIDES:
            found = [self.one_of_both(yard, wide) for yard in drawn_yards(wide, 1500)]
            # Else the drawing would leave one of both untried.
            self.assertGreater(found.count(True), 300)
            self.assertGreater(found.count(False), 300)

    def test_drawn_yards_by_trying_corners(self):
        for wide in WIDES:
            for yard in drawn_yards(wide, 150, seed=11):
                self.assertIs(self.one_of_both(yard, wide), has_point(yard, wide), yard)

    def test_a_clash_of_as_many_bounds_as_it_may_have(self):
        for wide in WIDES:
            corner = tuple((turned_signs(unit), -1) for unit in units(wide))
            yard = corner + (((1,) * wide, wide - 1),)
            weights = self.told(clash, yard, wide)
            self.is_clash(yard, wide, weights)
            self.assertEqual(len([weight for weight in weights if weight > 0]), wide + 1)
            for left in range(wide + 1):
                self.assertTrue(self.one_of_both(yard[:left] + yard[left + 1:], wide))

    def test_a_yard_has_a_point_just_if_few_of_its_bounds_have(self):
        for wide in WIDES:
            for yard in drawn_yards(wide, 200, seed=5) + named_yards(wide):
                few = [point_in(some, wide) for some in itertools.combinations(yard, min(wide + 1, len(yard)))]
                self.assertIs(point_in(yard, wide) is not None, all(point is not None for point in few), yard)

    def test_bounds_in_another_order_or_twice_change_nothing(self):
        for wide in WIDES:
            for yard in drawn_yards(wide, 60, most=3, seed=3):
                there = self.one_of_both(yard, wide)
                for other in itertools.permutations(yard):
                    self.assertIs(self.one_of_both(other, wide), there)
                self.assertIs(self.one_of_both(yard + yard, wide), there)

    def test_somewhat_beyond_what_the_document_bounds(self):
        for wide in WIDES:
            for yard in drawn_yards(wide, 15, most=9, seed=2):
                self.assertIs(self.one_of_both(yard, wide), has_point(yard, wide), yard)
            row = row_of(wide, HUGE)
            self.assertTrue(self.one_of_both(((row, HUGE + 1), (turned_signs(row), -HUGE - 1)), wide))
            self.assertFalse(self.one_of_both(((row, HUGE + 1), (turned_signs(row), -HUGE - 2)), wide))
        for yard in drawn_yards(4, 40, seed=2):
            self.one_of_both(yard, 4)

    def test_arguments_by_name(self):
        self.is_point_of((((1,), 2),), 1, point_in(yard=(((1,), 2),), wide=1))
        self.is_clash((((0,), -2),), 1, clash(yard=(((0,), -2),), wide=1))


if __name__ == "__main__":
    unittest.main()
