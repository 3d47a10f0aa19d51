"""Point 19: hangings written as texts."""

import itertools
import unittest

from hungwords.errors import BadText, HangError
from hungwords.texts import hanging_from, hanging_text
from tests.helper import hangings_gone_through, some_hanging, some_plain


class HangingTextTest(unittest.TestCase):
    def test_ordinary(self):
        self.assertEqual(hanging_text((2, 0, 2)), "2 0 2")
        self.assertEqual(hanging_text((3, 0, 2)), "3 0 2")
        self.assertEqual(hanging_text((0,) + (1,) * 9 + (10,)), "0 1 1 1 1 1 1 1 1 1 10")

    def test_one_word(self):
        self.assertEqual(hanging_text((0,)), "0")

    def test_ninety_nine_words(self):
        h = tuple(range(2, 100)) + (0,)
        self.assertEqual(hanging_text(h), " ".join(str(on) for on in range(2, 100)) + " 0")


class HangingFromTest(unittest.TestCase):
    def refused(self, text):
        with self.assertRaises(HangError) as caught:
            hanging_from(text)
        self.assertIs(type(caught.exception), BadText, text)

    def test_ordinary(self):
        self.assertEqual(hanging_from("2 0 2"), (2, 0, 2))
        self.assertEqual(hanging_from("0"), (0,))
        self.assertEqual(hanging_from("3 0 2"), (3, 0, 2))

    def test_back_again(self):
        for n in range(1, 5):
            for h in hangings_gone_through(n):
                self.assertEqual(hanging_from(hanging_text(h)), h)
        for n in (9, 10, 11, 12, 50, 98, 99):
            for h in (some_hanging(n, n), some_plain(n, n)):
                self.assertEqual(hanging_from(hanging_text(h)), h)

    def test_ninety_nine_words_and_a_hundred(self):
        self.assertEqual(hanging_from("0" + " 1" * 98), (0,) + (1,) * 98)
        self.assertEqual(hanging_from("99 " * 98 + "0"), (99,) * 98 + (0,))
        self.refused("0" + " 1" * 99)
        self.refused("100 " * 99 + "0")
        self.refused("0" + " 1" * 5000)

    def test_no_hangings(self):
        for text in ["1", "0 0", "1 2", "2 1", "0 3", "2 3 1", "0 2", "1 0", "0 1 4", "0 3 2", "2 0 100", "7"]:
            self.refused(text)

    def test_all_tuples_of_few_words(self):
        for n in range(1, 4):
            hangings = hangings_gone_through(n)
            for ons in itertools.product(range(n + 2), repeat=n):
                text = " ".join(str(on) for on in ons)
                if ons in hangings:
                    self.assertEqual(hanging_from(text), ons)
                else:
                    self.refused(text)

    def test_an_empty_text(self):
        self.refused("")

    def test_noughts_ahead(self):
        for text in ["00", "000", "02 0 2", "2 00 2", "2 0 02", "0 01", "2 0 002", "00 1"]:
            self.refused(text)

    def test_blanks(self):
        for text in [" ", "  ", " 0", "0 ", " 0 1", "0 1 ", "0  1", "2 0  2", "2  0 2", " 2 0 2 ", "0 " * 3]:
            self.refused(text)

    def test_line_feeds(self):
        for text in ["\n", "0\n", "\n0", "0\n1", "2 0\n2", "2 0 2\n", "2 \n0 2", "0 1\n "]:
            self.refused(text)

    def test_other_signs(self):
        for sign in [chr(code) for code in range(33, 127) if not chr(code).isdigit()]:
            for text in [sign, "0" + sign, sign + "0", "0 1" + sign, "0 " + sign + "1", "0" + sign + "1", "2 " + sign]:
                self.refused(text)
        for text in [
            "-0", "+0", "0 +1", "0 -1", "0,1", "(0,)", "0 1_1", "0 1.0", "0 1e0", "0x0", "0 a", "0\t1", "None",
        ]:
            self.refused(text)

    def test_figures_of_other_scripts(self):
        for text in ["\u0660", "0 \u0661", "\uff10", "0 \u00b9", "0\u00a01"]:
            self.refused(text)

    def test_numbers_of_many_figures(self):
        for many in (3, 10, 4300, 6000):
            self.refused("9" * many)
            self.refused("0 " + "1" * many)
            self.refused("0 1 " + "0" * many)
