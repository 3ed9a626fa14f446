"""Promises 0.2 (e), 0.3 and 5.1: parted."""

import unittest

from checking import Checks
from samples import LARGEST, WIDES, Draw, all_small_yards, drawn_yards, named_yards, row_of, turned_signs, units
from scaleyard.parting import parted
from sums import HUGE, follows_by_fractions, has_point


def drawn_pairs(wide, count, most=3, seed=47):
    """Yards cut in two, so that their bounds have to do with each other, and yards drawn each by itself."""
    draw = Draw(seed + wide)
    found = []
    for yard in drawn_yards(wide, count, most=2 * most, seed=seed):
        cut = max(min(draw.below(most + 1), len(yard)), len(yard) - most)
        found.append((yard[:cut], yard[cut:]))
    ones = drawn_yards(wide, count // 3, most=most, seed=seed + 1)
    return found + list(zip(ones, drawn_yards(wide, count // 3, most=most, seed=seed + 2)))


class PartedTest(Checks):
    def part(self, one, other, wide):
        """Whether a bound parts them; where none does, both have a point in common, by the tests' own sums."""
        bound = self.told(parted, one, other, wide)
        self.assertIs(bound is None, has_point(one + other, wide), (one, other, bound))
        if bound is None:
            return False
        self.assertIs(bound.__class__, tuple)
        self.assertEqual(len(bound), 2)
        self.is_row(bound[0], wide)
        self.assertIs(bound[1].__class__, int)
        self.assertTrue(follows_by_fractions(one, wide, bound), (one, other, bound))
        apart = (turned_signs(bound[0]), -1 - bound[1])
        self.assertTrue(follows_by_fractions(other, wide, apart), (one, other, bound))
        return True

    def test_plain_examples(self):
        self.assertTrue(self.part((((1,), 3),), (((-1,), -4),), 1))
        self.assertFalse(self.part((((1,), 3),), (((-1,), -3),), 1))
        self.assertTrue(self.part((((LARGEST,), 1),), (((1 - LARGEST,), -1),), 1))
        corner = (((-1, 0), 0), ((0, -1), 0))
        self.assertTrue(self.part(corner, (((1, 1), -1),), 2))
        self.assertTrue(self.part((((1, 1), -1),), corner, 2))
        self.assertFalse(self.part(corner, (((1, 1), 0),), 2))
        triangle = (((-1, 0, 0), 0), ((0, -1, 0), 0), ((0, 0, -1), 0))
        self.assertTrue(self.part(triangle, (((2, 3, 5), -1), ((1, 0, 0), 9)), 3))

    def test_yards_without_bounds(self):
        for wide in WIDES:
            nothing = (((0,) * wide, -1),)
            self.assertFalse(self.part((), (), wide))
            self.assertTrue(self.part((), nothing, wide))
            self.assertTrue(self.part(nothing, (), wide))
            for yard in drawn_yards(wide, 60, most=3, seed=53):
                self.assertEqual(self.part((), yard, wide), self.part(yard, (), wide))

    def test_yards_without_points(self):
        for wide in WIDES:
            row = row_of(wide, 1)
            some = [((row, 0), (turned_signs(row), -1)), (((0,) * wide, -LARGEST),), (((0,) * wide, -1), (row, 4))]
            full = [(), ((row, 0),), ((row, 9), (turned_signs(row), 9), (units(wide)[0], 1))]
            for one in some:
                for other in some + full:
                    self.assertTrue(self.part(one, other, wide))
                    self.assertTrue(self.part(other, one, wide))

    def test_yards_that_touch_or_nearly_touch(self):
        for wide in WIDES:
            for row in units(wide) + [row_of(wide, 1), (LARGEST,) * wide, row_of(wide, -LARGEST)]:
                for limit in (-LARGEST, -1, 0, 5):
                    self.assertFalse(self.part(((row, limit),), ((turned_signs(row), -limit),), wide))
                    self.assertFalse(self.part(((row, limit),), ((turned_signs(row), 1 - limit),), wide))
                    self.assertTrue(self.part(((row, limit),), ((turned_signs(row), -1 - limit),), wide))

    def test_a_yard_and_itself(self):
        for wide in WIDES:
            for yard in drawn_yards(wide, 40, most=3, seed=59):
                self.assertIs(self.part(yard, yard, wide), not has_point(yard, wide))

    def test_small_yards(self):
        for wide, many, numbers in ((1, 1, (-2, -1, 0, 1, 3)), (1, 2, (-1, 0, 1)), (2, 1, (-1, 0, 1))):
            yards = list(all_small_yards(wide, many, numbers))
            for one in yards:
                for other in yards[::2]:
                    self.part(one, other, wide)

    def test_named_yards(self):
        for wide in WIDES:
            yards = [yard for yard in named_yards(wide) if len(yard) <= 3]
            for one in yards[::2]:
                for other in yards[1::2]:
                    self.part(one, other, wide)

    def test_drawn_yards(self):
        for wide in WIDES:
            found = [self.part(one, other, wide) for one, other in drawn_pairs(wide, 200)]
            # Else the drawing would leave one of both untried.
            self.assertGreater(found.count(True), 50)
            self.assertGreater(found.count(False), 50)

    def test_in_the_other_order_they_are_parted_just_as_well(self):
        for wide in WIDES:
            for one, other in drawn_pairs(wide, 40, seed=61):
                self.assertIs(self.part(one, other, wide), self.part(other, one, wide))

    def test_somewhat_beyond_what_the_document_bounds(self):
        for wide in WIDES:
            for one, other in drawn_pairs(wide, 10, most=5, seed=67):
                self.part(one, other, wide)
            row = row_of(wide, HUGE)
            self.assertTrue(self.part(((row, HUGE),), ((turned_signs(row), -HUGE - 1),), wide))

    def test_arguments_by_name(self):
        self.assertIsNone(parted(one=(((1,), 1),), other=(((-1,), 0),), wide=1))


if __name__ == "__main__":
    unittest.main()
