"""Promises 0.2 (d), 0.3 and 4.1: shadow and raised."""

import itertools
import unittest
from fractions import Fraction

from checking import Checks
from samples import LARGEST, Draw, all_small_yards, drawn_yards, named_yards, row_of
from scaleyard.shadows import raised, shadow
from sums import HUGE, as_point, corners, kept_by_fractions, last_stretch, same_point, unknowns

SHADOWED = (2, 3)
TINY = Fraction(1, HUGE)


def moved(at, place, step):
    return [part + step if k == place else part for k, part in enumerate(at)]


def points_near(bounds, wide):
    """Corners of what the bounds enclose, what lies between them, and what lies a very little beside them."""
    found = corners(bounds, wide)[:6]
    halves = [[(mine + yours) / 2 for mine, yours in zip(one, other)] for one, other in zip(found, found[1:])]
    beside = [moved(at, place, step) for at in found for place in range(wide) for step in (TINY, -TINY)]
    return [as_point(at) for at in found + halves + beside]


def plain_points(wide):
    rows = itertools.product((-2, 0, 1), repeat=wide)
    return [(row, divisor) for row in rows for divisor in (1, 3)]


def large_points(wide):
    rows = [(HUGE,) * wide, (-HUGE,) * wide, row_of(wide, HUGE - 1), row_of(wide, -1)]
    return [(row, divisor) for row in rows for divisor in (1, LARGEST, HUGE + 1)]


class ShadowTest(Checks):
    def is_shadow(self, yard, wide):
        bounds = self.told(shadow, yard, wide)
        self.assertIs(bounds.__class__, tuple)
        for bound in bounds:
            self.assertIs(bound.__class__, tuple)
            self.assertEqual(len(bound), 2)
            self.is_row(bound[0], wide - 1)
            self.assertIs(bound[1].__class__, int)
        return bounds

    def lies_in(self, yard, wide, bounds, point):
        """Whether a point lies in the shadow: by the shadow, by what it is raised to, and by the tests' own sums."""
        due = last_stretch(yard, unknowns(point)) is not None
        self.assertIs(kept_by_fractions(bounds, point), due, (yard, bounds, point))
        found = self.told(raised, yard, wide, point)
        self.assertIs(found is not None, due, (yard, point, found))
        if due:
            self.is_point_of(yard, wide, found)
            self.assertEqual(unknowns(found)[:-1], unknowns(point), (yard, point, found))
        return due

    def all_lie_in(self, yard, wide, points):
        bounds = self.is_shadow(yard, wide)
        return [self.lies_in(yard, wide, bounds, point) for point in points]

    def test_plain_examples(self):
        yard = (((1, 2), 30), ((-1, 0), 0), ((0, -1), 0))
        points = [((0,), 1), ((30,), 1), ((60,), 2), ((61,), 2), ((-1,), 1), ((-1,), HUGE), ((30 * HUGE + 1,), HUGE)]
        self.assertEqual(self.all_lie_in(yard, 2, points), [True, True, True, False, False, False, False])
        yard = (((1, 1, 3), 1), ((0, 0, -1), -1))
        points = [((-1, -1), 1), ((-2, 0), 1), ((-1, -2), 2), ((-9, 7), 1), ((-9, 8), 1)]
        self.assertEqual(self.all_lie_in(yard, 3, points), [True, True, False, True, False])

    def test_the_yard_without_bounds(self):
        for wide in SHADOWED:
            points = plain_points(wide - 1) + large_points(wide - 1)
            self.assertEqual(self.all_lie_in((), wide, points), [True] * len(points))

    def test_bounds_that_leave_the_last_unknown_free(self):
        for wide in SHADOWED:
            draw = Draw(wide)
            for many in range(1, 7):
                flat = [draw.bound(wide - 1, 4) for _ in range(many)]
                yard = tuple((row + (0,), limit) for row, limit in flat)
                for point in plain_points(wide - 1) + large_points(wide - 1) + points_near(flat, wide - 1):
                    due = kept_by_fractions(flat, point)
                    self.assertEqual(self.all_lie_in(yard, wide, [point]), [due])

    def test_bounds_on_the_last_unknown_alone(self):
        for wide in SHADOWED:
            zero = (0,) * (wide - 1)
            points = plain_points(wide - 1) + large_points(wide - 1)
            for one, other in itertools.product((1, 3, -2, -LARGEST), repeat=2):
                for limit in (-7, -2, 0, 2, 3, 6):
                    yard = ((zero + (one,), 6), (zero + (other,), limit))
                    self.assertIn(set(self.all_lie_in(yard, wide, points)), ({True}, {False}))
            kept_nowhere = ((zero + (2,), 1), (zero + (-2,), -2))
            self.assertEqual(self.all_lie_in(kept_nowhere, wide, points), [False] * len(points))
            kept_once = ((zero + (2,), 1), (zero + (-2,), -1))
            self.assertEqual(self.all_lie_in(kept_once, wide, points), [True] * len(points))

    def test_yards_without_points(self):
        for wide in SHADOWED:
            points = plain_points(wide - 1) + large_points(wide - 1)
            found = [yard for yard in drawn_yards(wide, 200) + named_yards(wide) if not corners(yard, wide)]
            self.assertGreater(len(found), 50)
            for yard in found[::3]:
                self.assertEqual(self.all_lie_in(yard, wide, points), [False] * len(points))

    def test_named_yards(self):
        for wide in SHADOWED:
            for yard in named_yards(wide):
                self.all_lie_in(yard, wide, plain_points(wide - 1) + large_points(wide - 1))
                self.all_lie_in(yard, wide, points_near(self.is_shadow(yard, wide), wide - 1))

    def test_small_yards(self):
        for yard in all_small_yards(2, 2, (-1, 0, 1)):
            self.all_lie_in(yard, 2, [((number,), 2) for number in range(-5, 6)])

    def test_drawn_yards_at_the_edge_and_just_beyond_it(self):
        for wide in SHADOWED:
            found = []
            for yard in drawn_yards(wide, 150, seed=37):
                ends = [(row[:-1], divisor) for row, divisor in points_near(yard, wide)]
                found += self.all_lie_in(yard, wide, ends + plain_points(wide - 1) + large_points(wide - 1)[::5])
                found += self.all_lie_in(yard, wide, points_near(self.is_shadow(yard, wide), wide - 1))
            # Else the drawing would leave points in the shadow or beside it untried.
            self.assertGreater(found.count(True), 1000)
            self.assertGreater(found.count(False), 1000)

    def test_the_same_point_with_another_divisor(self):
        for wide in SHADOWED:
            for yard in drawn_yards(wide, 40, seed=41):
                for point in plain_points(wide - 1):
                    points = [point] + [same_point(point, times) for times in (2, 15, HUGE)]
                    self.assertEqual(len(set(self.all_lie_in(yard, wide, points))), 1)

    def test_somewhat_beyond_what_the_document_bounds(self):
        for wide in SHADOWED:
            for yard in drawn_yards(wide, 10, most=10, seed=43):
                self.all_lie_in(yard, wide, plain_points(wide - 1))
        for yard in drawn_yards(1, 60, seed=43):
            self.all_lie_in(yard, 1, [((), 1), ((), HUGE)])
        for yard in drawn_yards(4, 10, seed=43):
            self.all_lie_in(yard, 4, plain_points(3))

    def test_arguments_by_name(self):
        yard = (((1, 2), 30),)
        self.assertIs(kept_by_fractions(shadow(yard=yard, wide=2), ((HUGE,), 1)), True)
        self.is_point_of(yard, 2, raised(yard=yard, wide=2, point=((1,), 2)))


if __name__ == "__main__":
    unittest.main()
