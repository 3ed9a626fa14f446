"""Promises 0.3, 0.4, 0.5 and 1.1: is_yard and is_point."""

import copy
import unittest

from samples import LARGEST, WIDES, all_lists, lists_for_tuples, no_yards, nested, numbers_swapped, other_things
from samples import row_of, yard_of
from scaleyard.things import is_point, is_yard


class YardTest(unittest.TestCase):
    def yes(self, thing, wide):
        self.assertIs(is_yard(thing, wide), True, (thing, wide))

    def no(self, thing, wide):
        self.assertIs(is_yard(thing, wide), False, (thing, wide))

    def test_none_to_six_bounds(self):
        for wide in WIDES:
            for many in range(7):
                self.yes(yard_of(wide, many), wide)

    def test_more_than_six_bounds(self):
        for wide in WIDES:
            for many in (7, 8, 20):
                self.no(yard_of(wide, many), wide)

    def test_the_same_bound_may_stand_twice(self):
        self.yes((((1, 2), 3), ((1, 2), 3)), 2)

    def test_plain_examples(self):
        self.yes((((0,), 0),), 1)
        self.yes((((0, 0), -1), ((-5, 3), 0)), 2)
        self.yes((((1, 0, -1), 12),), 3)

    def test_largest_and_smallest_numbers_at_every_place(self):
        for wide in WIDES:
            for many in (1, 6):
                for yard in numbers_swapped(yard_of(wide, many), LARGEST, -LARGEST, 0):
                    self.yes(yard, wide)

    def test_one_beyond_the_largest_and_smallest_at_every_place(self):
        for wide in WIDES:
            for many in (1, 6):
                for yard in numbers_swapped(yard_of(wide, many), LARGEST + 1, -LARGEST - 1, 10 ** 40, -(10 ** 40)):
                    self.no(yard, wide)

    def test_rows_of_another_length(self):
        for wide in WIDES:
            for length in range(6):
                if length != wide:
                    self.no(((row_of(length, 1), 2),), wide)
                    self.no(yard_of(wide, 5) + ((row_of(length, 1), 2),), wide)
                    self.no(((row_of(length, 1), 2),) + yard_of(wide, 5), wide)

    def test_a_yard_of_other_unknowns(self):
        for wide in WIDES:
            for other in WIDES:
                self.assertIs(is_yard(yard_of(other, 3), wide), other == wide)

    def test_lists_at_every_depth(self):
        for wide in WIDES:
            for many in (0, 1, 6):
                for thing in lists_for_tuples(yard_of(wide, many)):
                    self.no(thing, wide)
                self.no(all_lists(yard_of(wide, many)), wide)

    def test_truths_at_every_place(self):
        for wide in WIDES:
            for many in (1, 6):
                for thing in numbers_swapped(yard_of(wide, many), True, False):
                    self.no(thing, wide)

    def test_other_things_in_the_place_of_numbers(self):
        for wide in WIDES:
            for thing in numbers_swapped(yard_of(wide, 2), None, "1", "", "a", (), (1,), [], [1]):
                self.no(thing, wide)

    def test_pairs_too_short_or_too_long(self):
        for wide in WIDES:
            row = row_of(wide, 1)
            for bound in ((), (row,), (row, 2, 3), (row, 2, None), (row, 2, ()), (row, row, 2), (2, row), (2,)):
                self.no((bound,), wide)
                self.no(yard_of(wide, 2) + (bound,), wide)

    def test_things_of_every_other_kind(self):
        for wide in WIDES:
            for thing in other_things() + no_yards(wide):
                self.no(thing, wide)

    def test_deeply_nested_things(self):
        for wide in WIDES:
            for deep in (1, 2, 5, 29, 30, 31):
                for kind in (tuple, list):
                    self.no(nested(kind, yard_of(wide, 1), deep), wide)
                    self.no(nested(kind, 0, deep), wide)

    def test_a_point_or_a_bound_by_itself(self):
        for wide in WIDES:
            self.no((row_of(wide, 1), 1), wide)
            self.no(row_of(wide, 1), wide)

    def test_nothing_is_changed_and_the_same_is_told_again(self):
        for wide in WIDES:
            for thing in [yard_of(wide, many) for many in range(8)] + no_yards(wide):
                before = copy.deepcopy(thing)
                first = is_yard(thing, wide)
                self.assertEqual(repr(thing), repr(before))
                self.assertIs(is_yard(thing, wide), first)
                self.assertIs(is_yard(before, wide), first)

    def test_arguments_by_name(self):
        self.assertIs(is_yard(thing=(), wide=1), True)


class PointTest(unittest.TestCase):
    def yes(self, thing, wide):
        self.assertIs(is_point(thing, wide), True, (thing, wide))

    def no(self, thing, wide):
        self.assertIs(is_point(thing, wide), False, (thing, wide))

    def test_divisors_from_one_on(self):
        for wide in WIDES:
            for divisor in (1, 2, 3, 1000000, 1000001, 10 ** 50):
                self.yes((row_of(wide, -1), divisor), wide)

    def test_divisors_below_one(self):
        for wide in WIDES:
            for divisor in (0, -1, -2, -1000000, -(10 ** 50)):
                self.no((row_of(wide, -1), divisor), wide)

    def test_divisors_that_are_no_whole_numbers(self):
        for wide in WIDES:
            for divisor in (True, False, None, "", "1", (), (1,), [], [1]):
                self.no((row_of(wide, -1), divisor), wide)

    def test_divisors_that_could_be_made_smaller(self):
        self.yes(((2,), 4), 1)
        self.yes(((0, 0), 7), 2)
        self.yes(((6, -3, 9), 3), 3)

    def test_rows_of_the_wrong_length(self):
        for wide in WIDES:
            for length in range(6):
                self.assertIs(is_point((row_of(length, 1), 1), wide), length == wide)

    def test_numbers_of_any_size(self):
        for wide in WIDES:
            for number in (0, 1, -1, 1000000, -1000000, 1000001, -1000001, 10 ** 60, -(10 ** 60)):
                self.yes(((number,) * wide, 1), wide)
                self.yes(((0,) * (wide - 1) + (number,), 5), wide)

    def test_other_things_in_the_place_of_the_row_s_numbers(self):
        for wide in WIDES:
            for place in range(wide):
                for other in (True, False, None, "", "1", (), (1,), [], [1]):
                    row = row_of(wide, 1)
                    self.no((row[:place] + (other,) + row[place + 1:], 1), wide)

    def test_lists_in_the_place_of_tuples(self):
        for wide in WIDES:
            point = (row_of(wide, 1), 1)
            for thing in lists_for_tuples(point):
                self.no(thing, wide)
            self.no(all_lists(point), wide)

    def test_pairs_too_short_or_too_long(self):
        for wide in WIDES:
            row = row_of(wide, 1)
            for thing in ((), (row,), (row, 1, 1), (row, 1, None), (row, row), (1, row), (1,), (1, 1), row, row + (1,)):
                self.no(thing, wide)

    def test_things_of_every_other_kind(self):
        for wide in WIDES:
            for thing in other_things():
                self.no(thing, wide)
            for many in range(8):
                self.no(yard_of(wide, many), wide)
            for deep in (1, 2, 29, 30):
                self.no(nested(tuple, (row_of(wide, 1), 1), deep), wide)
                self.no(nested(list, (row_of(wide, 1), 1), deep), wide)

    def test_texts_in_the_place_of_rows(self):
        for wide in WIDES:
            self.no(("1" * wide, 1), wide)
            self.no("11", wide)

    def test_nothing_is_changed_and_the_same_is_told_again(self):
        for wide in WIDES:
            for thing in [(row_of(wide, 3), 4), (list(row_of(wide, 3)), 4), [row_of(wide, 3), 4]] + other_things():
                before = copy.deepcopy(thing)
                first = is_point(thing, wide)
                self.assertEqual(repr(thing), repr(before))
                self.assertIs(is_point(thing, wide), first)
                self.assertIs(is_point(before, wide), first)

    def test_arguments_by_name(self):
        self.assertIs(is_point(thing=((0,), 1), wide=1), True)


if __name__ == "__main__":
    unittest.main()
