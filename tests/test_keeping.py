"""Promises 0.2 (f), 0.3, 0.5 and 2.1: kept and middle."""

import copy
import itertools
import unittest
from fractions import Fraction

from samples import WIDES, drawn_yards, row_of, yard_of
from scaleyard.keeping import kept, middle
from scaleyard.things import is_point
from sums import HUGE, as_point, corners, kept_by_fractions, same_point, unknowns

DIVISORS = (1, 2, 3, 7, 1000001, HUGE)


def small_points(wide):
    numbers = (-3, 0, 1, 4) if wide < 3 else (-3, 0, 4)
    return [(row, divisor) for row in itertools.product(numbers, repeat=wide) for divisor in (1, 2, 3)]


def small_bounds(wide):
    numbers = (-2, 0, 3) if wide < 3 else (-2, 3)
    return [(row, limit) for row in itertools.product(numbers, repeat=wide) for limit in (-4, 0, 3)]


def points_of_any_size(wide):
    rows = [(0,) * wide, row_of(wide, -1), (HUGE,) * wide, (-HUGE,) * wide, row_of(wide, HUGE - 1), (1,) * wide]
    return [(row, divisor) for row in rows for divisor in DIVISORS]


class KeptTest(unittest.TestCase):
    def yes(self, bounds, point):
        self.assertIs(kept(bounds, point), True, (bounds, point))

    def no(self, bounds, point):
        self.assertIs(kept(bounds, point), False, (bounds, point))

    def test_no_bounds(self):
        for wide in WIDES:
            for point in points_of_any_size(wide):
                self.yes((), point)

    def test_plain_examples(self):
        self.yes((((1, 2), 30), ((-1, 0), 0)), ((3, 4), 1))
        self.no((((1, 2), 30), ((-1, 0), 0)), ((-3, 4), 1))
        self.yes((((3,), 4),), ((4,), 3))
        self.no((((3,), 4),), ((5,), 3))
        self.yes((((1, 1, 1), 1),), ((1, 1, 1), 3))
        self.no((((1, 1, 1), 1),), ((1, 1, 2), 3))

    def test_just_at_the_limit_and_one_beyond(self):
        for wide in WIDES:
            row = row_of(wide, 2)
            for divisor in DIVISORS:
                for limit in (-5, 0, 1, 6, HUGE, -HUGE):
                    for place in range(wide):
                        bound = (tuple(1 if k == place else row[k] for k in range(wide)), limit)
                        rest = sum(bound[0][k] * 3 for k in range(wide) if k != place)
                        edge = limit * divisor - rest
                        for number, told in ((edge - 1, True), (edge, True), (edge + 1, False)):
                            point = (tuple(number if k == place else 3 for k in range(wide)), divisor)
                            self.assertIs(kept((bound,), point), told, (bound, point))

    def test_bounds_whose_row_is_nought(self):
        for wide in WIDES:
            for point in points_of_any_size(wide):
                self.yes((((0,) * wide, 0),), point)
                self.yes((((0,) * wide, 1),), point)
                self.no((((0,) * wide, -1),), point)

    def test_numbers_below_nought(self):
        self.yes((((-1,), -2),), ((2,), 1))
        self.no((((-1,), -2),), ((1,), 1))
        self.yes((((-2, 3), -13),), ((-1, -5), 1))
        self.no((((-2, 3), -14),), ((-1, -5), 1))
        self.yes((((-2, 3), -13),), ((-2, -10), 2))
        self.no((((-2, 3), -13),), ((-2, -10), 3))

    def test_small_ones_of_every_form(self):
        for wide in WIDES:
            for point in small_points(wide):
                for bound in small_bounds(wide):
                    self.assertIs(kept((bound,), point), kept_by_fractions((bound,), point), (bound, point))

    def test_every_bound_counts(self):
        for wide in WIDES:
            good, bad = (row_of(wide, 1), 100), (row_of(wide, 1), -1)
            point = ((1,) * wide, 1)
            for many in range(1, 10):
                self.yes((good,) * many, point)
                for place in range(many):
                    self.no((good,) * place + (bad,) + (good,) * (many - place - 1), point)

    def test_the_same_point_with_another_divisor(self):
        for wide in WIDES:
            for point in small_points(wide):
                for many in range(7):
                    told = kept(yard_of(wide, many), point)
                    for times in (2, 3, 10, HUGE):
                        self.assertIs(kept(yard_of(wide, many), same_point(point, times)), told)
            for bound in small_bounds(wide):
                for point in small_points(wide):
                    self.assertIs(kept((bound,), same_point(point, 6)), kept((bound,), point))

    def test_very_large_numbers(self):
        self.yes((((HUGE,), HUGE * HUGE),), ((HUGE,), 1))
        self.no((((HUGE,), HUGE * HUGE - 1),), ((HUGE,), 1))
        self.no((((HUGE,), HUGE * HUGE),), ((HUGE + 1,), 1))
        self.yes((((HUGE, -HUGE), 0),), ((HUGE, HUGE), HUGE))
        self.no((((HUGE, -HUGE), 0),), ((HUGE + 1, HUGE), HUGE))
        self.yes((((HUGE, -HUGE), 1),), ((HUGE + 1, HUGE), HUGE))
        self.yes((((HUGE, 1, -1), HUGE),), ((1, HUGE, HUGE), 1))
        self.no((((HUGE, 1, -1), HUGE),), ((1, HUGE + 1, HUGE), 1))

    def test_nothing_is_changed_and_the_same_is_told_again(self):
        for wide in WIDES:
            for point in small_points(wide):
                bounds = yard_of(wide, 3)
                before = copy.deepcopy((bounds, point))
                told = kept(bounds, point)
                self.assertEqual((bounds, point), before)
                self.assertIs(kept(bounds, point), told)

    def test_arguments_by_name(self):
        self.assertIs(kept(bounds=(((1,), 2),), point=((3,), 1)), False)


class MiddleTest(unittest.TestCase):
    def half_way(self, one, other):
        told = middle(one, other)
        wide = len(one[0])
        self.assertIs(is_point(told, wide), True, (one, other, told))
        sought = [(mine + yours) / 2 for mine, yours in zip(unknowns(one), unknowns(other))]
        self.assertEqual(unknowns(told), sought, (one, other, told))

    def test_plain_examples(self):
        self.half_way(((0,), 1), ((1,), 1))
        self.half_way(((1, 2), 1), ((3, 8), 1))
        self.half_way(((1, 2), 3), ((-1, 5), 2))
        self.half_way(((1, 0, -1), 4), ((7, -7, 0), 6))

    def test_small_ones_of_every_form(self):
        for wide in (1, 2):
            for one in small_points(wide):
                for other in small_points(wide):
                    self.half_way(one, other)
        for one in small_points(3):
            for other in small_points(3)[::4]:
                self.half_way(one, other)

    def test_numbers_of_any_size(self):
        for wide in WIDES:
            for one in points_of_any_size(wide):
                for other in points_of_any_size(wide):
                    self.half_way(one, other)

    def test_the_same_point_twice(self):
        for wide in WIDES:
            for point in small_points(wide) + points_of_any_size(wide):
                self.half_way(point, point)
                self.half_way(point, same_point(point, 5))
                self.assertEqual(unknowns(middle(point, same_point(point, 5))), unknowns(point))

    def test_what_lies_half_way_keeps_what_both_keep(self):
        for wide in WIDES:
            points = small_points(wide)[::1 if wide < 2 else 3]
            for bound in small_bounds(wide):
                good = [point for point in points if kept((bound,), point)]
                for one in good:
                    for other in good:
                        self.assertIs(kept((bound,), middle(one, other)), True, (bound, one, other))

    def test_half_way_between_points_at_the_limit(self):
        yard = (((1, 1), 1), ((-1, 0), 0), ((0, -1), 0))
        corners = [((0, 0), 5), ((7, 0), 7), ((0, 3), 3), ((HUGE, HUGE), 2 * HUGE)]
        for one in corners:
            for other in corners:
                self.assertIs(kept(yard, one), True)
                self.assertIs(kept(yard, middle(one, other)), True)
        on_the_edge = middle(corners[1], corners[2])
        self.assertIs(kept((((-1, -1), -1),), on_the_edge), True)

    def test_half_way_between_points_of_drawn_yards(self):
        for wide in WIDES:
            for yard in drawn_yards(wide, 60):
                ends = [as_point(at) for at in corners(yard, wide)]
                for one, other in itertools.combinations(ends, 2):
                    self.half_way(one, other)
                    self.assertIs(kept_by_fractions(yard, middle(one, other)), True, (yard, one, other))

    def test_half_way_and_again(self):
        bounds = (((1, 0, 2), 9), ((-3, 1, 0), 4), ((0, -1, -1), 2))
        point = ((0, 0, 0), 1)
        for turn in range(60):
            other = ((1, 1, 4), 1) if turn % 2 else ((-1, -2, 0), 3)
            self.half_way(point, other)
            point = middle(point, other)
            self.assertIs(kept(bounds, other), True)
            self.assertIs(kept(bounds, point), True)

    def test_nothing_is_changed_and_the_same_is_told_again(self):
        for wide in WIDES:
            for one in points_of_any_size(wide):
                other = (row_of(wide, 3), 4)
                before = copy.deepcopy((one, other))
                told = middle(one, other)
                self.assertEqual((one, other), before)
                self.assertEqual(middle(one, other), told)

    def test_arguments_by_name(self):
        self.assertEqual(unknowns(middle(one=((0,), 1), other=((1,), 1))), [Fraction(1, 2)])


if __name__ == "__main__":
    unittest.main()
