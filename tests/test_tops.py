"""Promises 0.2 (b) and (c), 0.3, 3.1 and 3.2: top, follows, reasons and against."""

import math
import unittest
from fractions import Fraction

from checking import Checks
from samples import (LARGEST, WIDES, Draw, all_small_yards, combined, drawn_yards, named_yards, row_of, turned_signs,
                     units)
from scaleyard.points import clash
from scaleyard.tops import against, follows, reasons, top
from sums import (HUGE, NO_POINT, NO_TOP, follows_by_fractions, highest, kept_by_fractions, sum_at, unknowns,
                  weights_limit)

KINDS = ("clash", "top", "endless")


def some_aims(yard, wide, draw):
    """Noughts, the yard's own rows and their contraries, sums of them, single unknowns, small and very large ones."""
    found = [(0,) * wide, draw.row(wide, 2), draw.row(wide, LARGEST), draw.row(wide, HUGE)]
    found.append(draw.one_of(units(wide)))
    if yard:
        row = draw.one_of(yard)[0]
        found += [row, turned_signs(row), tuple(HUGE * number for number in row)]
        found.append(turned_signs(combined(yard, [draw.below(4) for _ in yard], wide, 0)[0]))
    return found


class TopChecks(Checks):
    def height(self, yard, wide, aim):
        """How high the sum comes by the answer, of which each kind shows by its own parts that it is the right one."""
        answer = self.told(top, yard, wide, aim)
        self.assertIn(answer[0], KINDS)
        if answer[0] == "clash":
            self.assertEqual(len(answer), 2)
            self.is_clash(yard, wide, answer[1])
            return NO_POINT
        self.is_point_of(yard, wide, answer[1])
        if answer[0] == "endless":
            self.assertEqual(len(answer), 3)
            self.is_way(yard, wide, answer[2], aim)
            return NO_TOP
        self.assertEqual(len(answer), 4)
        self.makes_row(yard, wide, answer[2], answer[3], aim)
        told = Fraction(weights_limit(yard, answer[2]), answer[3])
        self.assertEqual(sum_at(aim, unknowns(answer[1])), told, (yard, aim, answer))
        self.assertEqual(weights_limit(yard, answer[2]) * answer[1][1], answer[3] * sum_at(aim, answer[1][0]))
        return told


class TopTest(TopChecks):
    def test_plain_examples(self):
        corner = (((1, 2), 30), ((-1, 0), 0), ((0, -1), 0))
        self.assertEqual(self.height(corner, 2, (1, 1)), 30)
        self.assertEqual(self.height(corner, 2, (0, 1)), 15)
        self.assertEqual(self.height(corner, 2, (-1, -1)), 0)
        self.assertEqual(self.height(corner[:2], 2, (1, 2)), 30)
        self.assertEqual(self.height(corner[:2], 2, (0, 1)), 15)
        self.assertEqual(self.height(corner[:2], 2, (1, 1)), NO_TOP)
        self.assertEqual(self.height(corner[:1], 2, (1, 1)), NO_TOP)
        self.assertEqual(self.height(corner + (((-1, -1), -31),), 2, (1, 1)), NO_POINT)
        self.assertEqual(self.height((((3,), 7),), 1, (1,)), Fraction(7, 3))
        self.assertEqual(self.height((((3,), 7),), 1, (-1,)), NO_TOP)
        self.assertEqual(self.height((((1, 1, 1), 1), ((-1, 0, 0), 0), ((0, -1, 0), 0)), 3, (3, 2, 1)), NO_TOP)
        self.assertEqual(self.height((((1, 1, 1), 1), ((0, -1, 0), 0), ((0, 0, -1), 0)), 3, (3, 2, 1)), 3)

    def test_the_yard_without_bounds(self):
        for wide in WIDES:
            self.assertEqual(self.height((), wide, (0,) * wide), 0)
            for unit in units(wide) + [row_of(wide, 1), (HUGE,) * wide]:
                self.assertEqual(self.height((), wide, unit), NO_TOP)
                self.assertEqual(self.height((), wide, turned_signs(unit)), NO_TOP)

    def test_an_aim_of_noughts(self):
        for wide in WIDES:
            for yard in drawn_yards(wide, 60) + named_yards(wide):
                self.assertIn(self.height(yard, wide, (0,) * wide), (0, NO_POINT))

    def test_an_aim_that_is_a_bound_s_row(self):
        for wide in WIDES:
            for yard in drawn_yards(wide, 60) + named_yards(wide):
                for row, limit in yard:
                    height = self.height(yard, wide, row)
                    self.assertTrue(height == NO_POINT or height <= limit, (yard, row))

    def test_very_large_aims(self):
        for wide in WIDES:
            row = row_of(wide, 1)
            large = tuple(HUGE * number for number in row)
            self.assertEqual(self.height(((row, 7),), wide, large), 7 * HUGE)
            self.assertEqual(self.height(((row, 7),), wide, turned_signs(large)), NO_TOP)
        self.assertEqual(self.height((((1, 0), 1), ((0, 1), 1)), 2, (HUGE, 1)), HUGE + 1)
        self.assertEqual(self.height((((1, 0), 1), ((0, 1), 1)), 2, (HUGE, -1)), NO_TOP)

    def test_named_and_small_yards(self):
        for wide in WIDES:
            draw = Draw(20 + wide)
            for yard in named_yards(wide):
                for aim in some_aims(yard, wide, draw):
                    self.assertEqual(self.height(yard, wide, aim), highest(yard, wide, aim), (yard, aim))
        for yard in all_small_yards(1, 2, (-2, -1, 0, 1, 3)):
            for aim in ((-1,), (0,), (2,)):
                self.height(yard, 1, aim)
        for yard in all_small_yards(2, 2, (-1, 0, 1)):
            for aim in ((-1, 0), (1, 1), (2, -1)):
                self.height(yard, 2, aim)

    def test_drawn_yards(self):
        for wide in WIDES:
            draw = Draw(30 + wide)
            found = []
            for yard in drawn_yards(wide, 200, seed=13):
                found += [self.height(yard, wide, aim) for aim in some_aims(yard, wide, draw)]
            # Else the drawing would leave a kind of answer untried.
            for kind in (NO_POINT, NO_TOP):
                self.assertGreater(found.count(kind), 100)
            self.assertGreater(len([height for height in found if isinstance(height, Fraction)]), 150)

    def test_drawn_yards_by_trying_corners(self):
        for wide in WIDES:
            draw = Draw(40 + wide)
            for yard in drawn_yards(wide, 60, seed=17):
                aim = draw.one_of(some_aims(yard, wide, draw))
                self.assertEqual(self.height(yard, wide, aim), highest(yard, wide, aim), (yard, aim))

    def test_with_one_bound_more_no_sum_comes_higher(self):
        for wide in WIDES:
            draw = Draw(50 + wide)
            for yard in drawn_yards(wide, 80, seed=19):
                for aim in some_aims(yard, wide, draw)[-3:]:
                    before = None
                    for many in range(len(yard) + 1):
                        height = self.height(yard[:many], wide, aim)
                        self.not_higher(height, before)
                        before = height

    def not_higher(self, height, before):
        if before == NO_POINT:
            self.assertEqual(height, NO_POINT)
        elif before not in (None, NO_TOP) and height != NO_POINT:
            self.assertNotEqual(height, NO_TOP)
            self.assertLessEqual(height, before)

    def test_somewhat_beyond_what_the_document_bounds(self):
        for wide in WIDES:
            for yard in drawn_yards(wide, 10, most=9, seed=2):
                aim = row_of(wide, -1)
                self.assertEqual(self.height(yard, wide, aim), highest(yard, wide, aim), (yard, aim))
        for yard in drawn_yards(4, 20, seed=2):
            self.height(yard, 4, (1, -2, 0, 3))

    def test_arguments_by_name(self):
        self.assertEqual(top(yard=(((1,), 2),), wide=1, aim=(1,))[0], "top")


class FollowsTest(TopChecks):
    def follow(self, yard, wide, bound):
        """Whether it follows: weights or a point show by themselves, of a yard that has points, that it does or not."""
        answer = self.told(follows, yard, wide, bound)
        self.assertIn(answer, (True, False))
        self.assertIs(answer.__class__, bool)
        weights = clash(yard, wide)
        if weights is not None:
            self.is_clash(yard, wide, weights)
            self.assertIs(answer, True)
            return answer
        why = self.told(reasons, yard, wide, bound)
        point = self.told(against, yard, wide, bound)
        self.assertEqual((why is None) + (point is None), 1, (yard, bound, why, point))
        self.assertIs(answer, why is not None, (yard, bound))
        if why is None:
            self.is_point_of(yard, wide, point)
            self.assertFalse(kept_by_fractions((bound,), point), (yard, bound, point))
        else:
            self.is_reason(yard, wide, bound, why)
        return answer

    def is_reason(self, yard, wide, bound, why):
        self.assertEqual(len(why), 2)
        self.makes_row(yard, wide, why[0], why[1], bound[0])
        self.assertLessEqual(weights_limit(yard, why[0]), why[1] * bound[1], (yard, bound, why))

    def limits_near(self, height):
        if not isinstance(height, Fraction):
            return (-HUGE, -1, 0, LARGEST, HUGE)
        least = math.floor(height)
        return (-HUGE, least - 1, least, math.ceil(height), least + 1, least + 2, HUGE * HUGE)

    def test_plain_examples(self):
        corner = (((1, 2), 30), ((-1, 0), 0), ((0, -1), 0))
        self.assertTrue(self.follow(corner, 2, ((1, 1), 30)))
        self.assertFalse(self.follow(corner, 2, ((1, 1), 29)))
        self.assertTrue(self.follow(corner, 2, ((0, 2), 31)))
        self.assertTrue(self.follow(corner, 2, ((0, 2), 30)))
        self.assertFalse(self.follow(corner, 2, ((0, 2), 29)))
        self.assertFalse(self.follow(corner[:1], 2, ((0, 1), HUGE)))
        self.assertTrue(self.follow((((3,), 7),), 1, ((1,), 3)))
        self.assertFalse(self.follow((((3,), 7),), 1, ((1,), 2)))
        self.assertTrue(self.follow((((3,), 6),), 1, ((1,), 2)))

    def test_the_yard_without_bounds(self):
        for wide in WIDES:
            zero = (0,) * wide
            self.assertTrue(self.follow((), wide, (zero, 0)))
            self.assertTrue(self.follow((), wide, (zero, HUGE)))
            self.assertFalse(self.follow((), wide, (zero, -1)))
            for row in units(wide) + [row_of(wide, 1), (-HUGE,) * wide]:
                for limit in (0, HUGE, -HUGE):
                    self.assertFalse(self.follow((), wide, (row, limit)))

    def test_all_follows_where_there_is_no_point(self):
        for wide in WIDES:
            draw = Draw(60 + wide)
            found = [yard for yard in drawn_yards(wide, 120) if highest(yard, wide, (0,) * wide) == NO_POINT]
            self.assertGreater(len(found), 20)
            for yard in found + [(((0,) * wide, -1),)]:
                for aim in some_aims(yard, wide, draw):
                    for limit in (-HUGE, -1, 0, HUGE):
                        self.assertIs(self.told(follows, yard, wide, (aim, limit)), True)

    def test_limits_at_the_top_and_near_it(self):
        for wide in WIDES:
            draw = Draw(70 + wide)
            found = []
            for yard in drawn_yards(wide, 70, seed=23):
                aim = draw.one_of(some_aims(yard, wide, draw))
                height = highest(yard, wide, aim)
                for limit in self.limits_near(height):
                    told = self.follow(yard, wide, (aim, limit))
                    due = height == NO_POINT or (height != NO_TOP and height <= limit)
                    self.assertIs(told, due, (yard, aim, limit))
                    found.append(told)
            self.assertGreater(found.count(True), 50)
            self.assertGreater(found.count(False), 50)

    def test_named_yards(self):
        for wide in WIDES:
            draw = Draw(80 + wide)
            for yard in named_yards(wide):
                aim = draw.one_of(some_aims(yard, wide, draw))
                for limit in (-LARGEST, -1, 0, 1, LARGEST, HUGE):
                    due = follows_by_fractions(yard, wide, (aim, limit))
                    self.assertIs(self.follow(yard, wide, (aim, limit)), due, (yard, aim, limit))

    def test_a_yard_s_own_bounds_follow_and_sums_of_them(self):
        for wide in WIDES:
            draw = Draw(90 + wide)
            for yard in drawn_yards(wide, 60, seed=29) + named_yards(wide):
                for bound in yard:
                    self.assertTrue(self.follow(yard, wide, bound))
                row, limit = combined(yard, [draw.below(HUGE) for _ in yard], wide, 0)
                self.assertTrue(self.follow(yard, wide, (turned_signs(row), -limit)))
                self.assertTrue(self.follow(yard, wide, (turned_signs(row), -limit + 1)))

    def test_far_against_an_endless_sum(self):
        for wide in WIDES:
            row = row_of(wide, 1)
            for limit in (-HUGE, -1, 0, 1, HUGE, HUGE * HUGE):
                self.assertFalse(self.follow(((row, 5),), wide, (turned_signs(row), limit)))
                self.assertFalse(self.follow(((row, 5), ((0,) * wide, 0)), wide, ((-HUGE,) * wide, limit)))

    def test_with_a_bound_that_follows_a_sum_comes_just_as_high(self):
        for wide in WIDES:
            draw = Draw(100 + wide)
            found = []
            for yard in drawn_yards(wide, 60, most=5, seed=31):
                row, limit = combined(yard, [draw.below(3) for _ in yard], wide, -draw.below(2))
                for bound in ((turned_signs(row), -limit), (draw.row(wide, 3), draw.between(-3, 9))):
                    if self.follow(yard, wide, bound):
                        aim = draw.one_of(some_aims(yard, wide, draw) + [bound[0]])
                        height = self.height(yard, wide, aim)
                        self.assertEqual(self.height(yard + (bound,), wide, aim), height, (yard, bound, aim))
                        found.append(height)
            self.assertGreater(len([height for height in found if height != NO_POINT]), 30)

    def test_arguments_by_name(self):
        self.assertIs(follows(yard=(((1,), 2),), wide=1, bound=((1,), 2)), True)
        self.is_reason((((1,), 2),), 1, ((1,), 2), reasons(yard=(((1,), 2),), wide=1, bound=((1,), 2)))
        self.is_point_of((((1,), 2),), 1, against(yard=(((1,), 2),), wide=1, bound=((1,), 1)))


if __name__ == "__main__":
    unittest.main()
