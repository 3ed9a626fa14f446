"""Promises 0.3 and 1.2, as far as it speaks of writing: written."""

import copy
import unittest

from samples import WIDES, no_yards, yard_of
from scaleyard.errors import NoText, NoYard, ScaleError
from scaleyard.writing import written


class WrittenTest(unittest.TestCase):
    def test_no_bounds(self):
        for wide in WIDES:
            self.assertEqual(written((), wide), "free")

    def test_one_bound(self):
        self.assertEqual(written((((3,), 4),), 1), "3 below 4")
        self.assertEqual(written((((1, 2), 30),), 2), "1 2 below 30")
        self.assertEqual(written((((10, 200, 7), 19),), 3), "10 200 7 below 19")

    def test_several_bounds(self):
        self.assertEqual(written((((1,), 5), ((-1,), 0)), 1), "1 below 5 ; -1 below 0")
        self.assertEqual(
            written((((1, 0), 5), ((0, 1), 6), ((-1, -1), -7)), 2), "1 0 below 5 ; 0 1 below 6 ; -1 -1 below -7")

    def test_six_bounds(self):
        yard = (((1,), 6), ((2,), 5), ((3,), 4), ((4,), 3), ((5,), 2), ((6,), 1))
        text = "1 below 6 ; 2 below 5 ; 3 below 4 ; 4 below 3 ; 5 below 2 ; 6 below 1"
        self.assertEqual(written(yard, 1), text)
        self.assertEqual(written(tuple(((0, 0, row[0]), limit) for row, limit in yard), 3),
                         " ; ".join("0 0 " + part for part in text.split(" ; ")))

    def test_bounds_keep_their_order_and_their_doubles(self):
        self.assertEqual(written((((2,), 1), ((1,), 2), ((2,), 1)), 1), "2 below 1 ; 1 below 2 ; 2 below 1")

    def test_nought(self):
        self.assertEqual(written((((0,), 0),), 1), "0 below 0")
        self.assertEqual(written((((0, 0, 0), 0), ((0, 0, 0), -1)), 3), "0 0 0 below 0 ; 0 0 0 below -1")

    def test_numbers_below_nought(self):
        self.assertEqual(written((((-1, -20), -300),), 2), "-1 -20 below -300")

    def test_largest_and_smallest_numbers(self):
        self.assertEqual(written((((1000000, -1000000), 1000000),), 2), "1000000 -1000000 below 1000000")
        self.assertEqual(written((((-1000000,), -1000000),), 1), "-1000000 below -1000000")
        self.assertEqual(written((((999999, 100000, -999999), -100000),), 3), "999999 100000 -999999 below -100000")

    def test_unlike_yards_have_unlike_texts(self):
        for wide in WIDES:
            texts = [written(yard_of(wide, many), wide) for many in range(7)]
            self.assertEqual(len(set(texts)), 7)
            for many, text in enumerate(texts):
                self.assertEqual(text.count("below"), many)
                self.assertEqual(text.count(" ; "), max(many - 1, 0))

    def test_what_is_no_yard_is_refused(self):
        for wide in WIDES:
            for thing in no_yards(wide):
                for error in (NoYard, ScaleError, ValueError):
                    with self.assertRaises(error, msg=repr(thing)):
                        written(thing, wide)

    def test_the_refusal_is_no_yard_and_not_no_text(self):
        for thing in (None, "free", [], yard_of(1, 7), yard_of(2, 1)):
            with self.assertRaises(ScaleError) as caught:
                written(thing, 1)
            self.assertIsInstance(caught.exception, NoYard)
            self.assertNotIsInstance(caught.exception, NoText)

    def test_a_yard_of_other_unknowns_is_refused(self):
        for wide in WIDES:
            for other in WIDES:
                if other != wide:
                    with self.assertRaises(NoYard):
                        written(yard_of(other, 2), wide)

    def test_nothing_is_changed_and_the_same_is_told_again(self):
        for wide in WIDES:
            for many in range(7):
                yard = yard_of(wide, many)
                before = copy.deepcopy(yard)
                text = written(yard, wide)
                self.assertEqual(yard, before)
                self.assertEqual(written(yard, wide), text)
                self.assertEqual(written(before, wide), text)

    def test_what_is_refused_is_not_changed_and_refused_again(self):
        for wide in WIDES:
            for thing in no_yards(wide):
                before = copy.deepcopy(thing)
                for _ in range(2):
                    with self.assertRaises(NoYard):
                        written(thing, wide)
                self.assertEqual(repr(thing), repr(before))

    def test_arguments_by_name(self):
        self.assertEqual(written(yard=(), wide=1), "free")


if __name__ == "__main__":
    unittest.main()
