"""Promises 0.3 and 1.2, as far as it speaks of reading: read."""

import re
import unittest

from samples import LARGEST, WIDES, numbers_swapped, row_of, yard_of
from scaleyard.errors import NoText, NoYard, ScaleError
from scaleyard.reading import read
from scaleyard.writing import written

NUMBER = "(?:0|-?(?:1000000|[1-9][0-9]{0,5}))"
# All signs that a text may have, by promise 0.3.
SIGNS = [chr(code) for code in range(32, 127)] + ["\t", "\n"]


def yard_by_pattern(text, wide):
    """The yard of which a text is the writing, None where there is none: told by another way than the program's."""
    if text == "free":
        return ()
    bound = " ".join([NUMBER] * wide + ["below", NUMBER])
    if not re.fullmatch(bound + "(?: ; " + bound + "){0,5}", text):
        return None
    numbers = [int(number) for number in re.findall(NUMBER, text)]
    parts = [numbers[k:k + wide + 1] for k in range(0, len(numbers), wide + 1)]
    return tuple((tuple(part[:-1]), part[-1]) for part in parts)


def one_sign_off(text):
    for place in range(len(text) + 1):
        yield text[:place] + text[place + 1:]
        for sign in SIGNS:
            yield text[:place] + sign + text[place:]
            yield text[:place] + sign + text[place + 1:]


def words_exchanged(text):
    words = text.split(" ")
    for first in range(len(words)):
        for last in range(first):
            other = list(words)
            other[first], other[last] = words[last], words[first]
            yield " ".join(other)


def bound_text(wide, word, place):
    """The text of one bound, with this word in the place of its number there; the limit stands last."""
    words = ["7"] * (wide + 1)
    words[place] = word
    return " ".join(words[:-1] + ["below"] + words[-1:])


class ReadingTest(unittest.TestCase):
    def refused(self, text, wide):
        with self.assertRaises(NoText, msg=repr((text[:200], wide))):
            read(text, wide)

    def all_refused(self, *texts):
        for text in texts:
            for wide in WIDES:
                self.refused(text, wide)

    def all_numbers_refused(self, *words):
        """As the only wrong word, at each place of one bound by itself and of one among others."""
        for wide in WIDES:
            good = written(yard_of(wide, 2), wide)
            for place in range(wide + 1):
                for word in words:
                    text = bound_text(wide, word, place)
                    self.refused(text, wide)
                    self.refused(text + " ; " + good, wide)
                    self.refused(good + " ; " + text, wide)

    def same_as_by_pattern(self, text, wide):
        yard = yard_by_pattern(text, wide)
        if yard is None:
            self.refused(text, wide)
        else:
            self.assertEqual(read(text, wide), yard, (text, wide))


class GoodTextTest(ReadingTest):
    def plain(self, thing):
        """Tuples and whole numbers throughout, no truth and no list among them."""
        if type(thing) is tuple:
            for part in thing:
                self.plain(part)
        else:
            self.assertIs(type(thing), int)

    def test_free(self):
        for wide in WIDES:
            self.assertEqual(read("free", wide), ())
            self.plain(read("free", wide))

    def test_plain_texts(self):
        self.assertEqual(read("3 below 4", 1), (((3,), 4),))
        self.assertEqual(read("1 2 below 30 ; -1 0 below 0", 2), (((1, 2), 30), ((-1, 0), 0)))
        self.assertEqual(read("10 200 7 below -19", 3), (((10, 200, 7), -19),))
        self.assertEqual(read("1 below 6 ; 2 below 5 ; 3 below 4 ; 4 below 3 ; 5 below 2 ; 6 below 1", 1),
                         (((1,), 6), ((2,), 5), ((3,), 4), ((4,), 3), ((5,), 2), ((6,), 1)))

    def test_order_and_doubles_are_kept(self):
        self.assertEqual(read("2 below 1 ; 1 below 2 ; 2 below 1", 1), (((2,), 1), ((1,), 2), ((2,), 1)))

    def test_what_is_written_is_read_again(self):
        for wide in WIDES:
            for many in range(7):
                yard = yard_of(wide, many)
                others = numbers_swapped(yard, LARGEST, -LARGEST, LARGEST - 1, 1 - LARGEST, 0, 1, -1, 100000)
                for thing in [yard] + others:
                    told = read(written(thing, wide), wide)
                    self.assertEqual(told, thing)
                    self.plain(told)

    def test_the_same_is_told_again(self):
        for wide in WIDES:
            for many in range(7):
                text = written(yard_of(wide, many), wide)
                self.assertEqual(read(text, wide), read(text, wide))
                self.assertEqual(text, written(yard_of(wide, many), wide))

    def test_arguments_by_name(self):
        self.assertEqual(read(text="1 below 2", wide=1), (((1,), 2),))


class OtherTextTest(ReadingTest):
    def test_texts_that_hold_nothing(self):
        self.all_refused("", " ", "  ", "\n", "\t", ";", " ; ", " ; ; ", " ;  ; ", "-", "below", " below ", "0", "5")

    def test_a_blank_a_tab_or_a_row_s_end_more_in_any_place(self):
        for wide in WIDES:
            for many in range(7):
                text = written(yard_of(wide, many), wide)
                for place in range(len(text) + 1):
                    for sign in (" ", "\t", "\n"):
                        self.refused(text[:place] + sign + text[place:], wide)

    def test_a_tab_or_a_row_s_end_for_any_blank(self):
        for wide in WIDES:
            for many in range(1, 7):
                text = written(yard_of(wide, many), wide)
                for place in [place for place, sign in enumerate(text) if sign == " "]:
                    for sign in ("\t", "\n", "", ",", "_"):
                        self.refused(text[:place] + sign + text[place + 1:], wide)

    def test_figures_of_another_form(self):
        self.all_numbers_refused("00", "01", "007", "-0", "-00", "-01", "+0", "+1", "+01", "0000000", "0000001")
        self.all_numbers_refused("-", "+", "", "--1", "++1", "-+1", "+-1", "1-", "1+", "1-1", "-1-")
        self.all_numbers_refused("1_0", "_1", "1_", "-_1", "1__0", "1_000", "_", "1,000", "1.0", "1.", ".1", "1e3")
        self.all_numbers_refused("0x1", "0b1", "0o7", "1f", "a", "O", "l", "one", "None", "True", "(1)", "'1'", "1/1")

    def test_numbers_beyond_the_largest_and_smallest(self):
        self.all_numbers_refused("1000001", "-1000001", "1000010", "9999999", "-9999999", "10000000", "-10000000")
        self.all_numbers_refused("1" + "0" * 40, "-1" + "0" * 40)

    def test_numbers_of_very_many_figures(self):
        for many in (4299, 4300, 4301, 5000, 100000):
            self.all_numbers_refused("9" * many, "-" + "9" * many, "0" * many, "0" * many + "1", "-" + "0" * many)

    def test_too_few_and_too_many_numbers(self):
        for wide in WIDES:
            good = written(yard_of(wide, 1), wide)
            for length in range(7):
                if length != wide:
                    text = " ".join([str(number) for number in row_of(length, 1)] + ["below", "5"])
                    for other in (text, text + " ; " + good, good + " ; " + text):
                        self.refused(other, wide)

    def test_below_missing_twice_elsewhere_or_otherwise_written(self):
        self.all_refused("1 2", "1 2 3", "1 2 3 4", "below 1 2", "below 1 2 3", "below 1 2 3 4", "below 1", "1 below")
        self.all_refused("1 below below 2", "1 1 below below 2", "1 1 1 below below 2", "1 below 2 below 3")
        self.all_refused("1 2 below", "1 2 3 below", "1 2 3 4 below", "1 2 below below 3", "1 below 2 below")
        for wide in WIDES:
            words = ["1"] * (wide + 1)
            for place in range(wide + 2):
                text = " ".join(words[:place] + ["below"] + words[place:])
                self.same_as_by_pattern(text, wide)
            for word in ("Below", "BELOW", "belo", "belows", "blow", "above", "<=", "<", "1", "0", "free", ";", "-"):
                self.refused(bound_text(wide, "7", 0).replace("below", word), wide)
                self.refused(written(yard_of(wide, 3), wide).replace("below", word, 1), wide)

    def test_the_sign_between_missing_twice_or_outside(self):
        for wide in WIDES:
            one = written(yard_of(wide, 1), wide)
            two = written(yard_of(wide, 2), wide)
            for text in (one, two):
                for between in (" ", "", ";", " ;", "; ", " ; ; ", " ;  ; ", " ;; ", " , ", " : ", "  ;  ", "\n", " ;\n"):
                    self.refused(text + between + one, wide)
                    if between != "":
                        self.refused(text + between, wide)
                        self.refused(between + text, wide)
                self.refused(text + " ; ", wide)
                self.refused(" ; " + text, wide)
                self.refused(" ; " + text + " ; ", wide)

    def test_free_beside_bounds_or_otherwise_written(self):
        self.all_refused("free free", "free ; free", "free ; ", " ; free", "free ;", "Free", "FREE", "fre", "frees")
        self.all_refused(" free", "free ", "free\n", "\tfree", "free below 0", "0 below free")
        for wide in WIDES:
            for many in (1, 2, 5, 6):
                text = written(yard_of(wide, many), wide)
                for other in ("free ; " + text, text + " ; free", "free " + text, text + " free", text + "free"):
                    self.refused(other, wide)

    def test_more_than_six_bounds(self):
        for wide in WIDES:
            for many in (7, 8, 100):
                self.refused(" ; ".join([written(yard_of(wide, 1), wide)] * many), wide)
                self.refused(" ; ".join([bound_text(wide, "0", wide)] * many), wide)

    def test_a_yard_of_another_number_of_unknowns(self):
        for wide in WIDES:
            for other in WIDES:
                for many in range(1, 7):
                    if other != wide:
                        self.refused(written(yard_of(other, many), other), wide)

    def test_words_exchanged(self):
        for wide in WIDES:
            for many in (1, 2, 3, 6):
                for text in words_exchanged(written(yard_of(wide, many), wide)):
                    self.same_as_by_pattern(text, wide)

    def test_one_sign_more_less_or_unlike(self):
        for wide in WIDES:
            self.same_as_by_pattern(bound_text(wide, "1000000", wide), wide)
            texts = ["free", written(yard_of(wide, 2), wide), bound_text(wide, "-1000000", 0)]
            for text in texts + [bound_text(wide, "999999", wide), bound_text(wide, "0", wide)]:
                for other in one_sign_off(text):
                    self.same_as_by_pattern(other, wide)

    def test_the_refusal_is_no_text_and_not_no_yard(self):
        texts = ("", "1", "01 below 2", "1000001 below 2", "9" * 5000 + " below 2", "x below 2", "1 1 below 2",
                 " ; ".join(["1 below 2"] * 7))
        for text in texts:
            for error in (NoText, ScaleError, ValueError):
                with self.assertRaises(error) as caught:
                    read(text, 1)
                self.assertIsInstance(caught.exception, NoText)
                self.assertNotIsInstance(caught.exception, NoYard)

    def test_what_is_refused_is_refused_again(self):
        for text in ("", "1", "-0 below 2", "1 below 2 ; ", "9" * 5000 + " below 2"):
            self.refused(text, 1)
            self.refused(text, 1)
            self.assertEqual(read("1 below 2", 1), (((1,), 2),))


if __name__ == "__main__":
    unittest.main()
