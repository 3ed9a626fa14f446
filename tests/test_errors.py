"""The interface's errors.py."""

import unittest

from scaleyard.errors import NoText, NoYard, ScaleError


class ErrorsTest(unittest.TestCase):
    def test_any_refusal_is_a_value_error(self):
        self.assertTrue(issubclass(ScaleError, ValueError))

    def test_each_refusal_stands_below_the_first(self):
        for error in (NoYard, NoText):
            self.assertTrue(issubclass(error, ScaleError))
            self.assertFalse(issubclass(ScaleError, error))

    def test_neither_stands_below_the_other(self):
        self.assertFalse(issubclass(NoYard, NoText))
        self.assertFalse(issubclass(NoText, NoYard))

    def test_each_is_caught_by_its_own_name_and_those_above(self):
        for error in (NoYard, NoText):
            for above in (error, ScaleError, ValueError):
                with self.assertRaises(above):
                    raise error("words")


if __name__ == "__main__":
    unittest.main()
