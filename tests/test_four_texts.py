"""The texts of fours: written, read, and refused."""

import itertools
import random
import re
import unittest

from grainmeet.errors import InvalidFour, ParseError
from grainmeet.fours import Four, four_text

TEXTS = {
    "0": (0, 0, 0, 0),
    "1": (2, 0, 0, 0),
    "-1": (-2, 0, 0, 0),
    "i": (0, 2, 0, 0),
    "-i": (0, -2, 0, 0),
    "j": (0, 0, 2, 0),
    "-k": (0, 0, 0, -2),
    "3+i-2j": (6, 2, -4, 0),
    "1+i": (2, 2, 0, 0),
    "-1-i-j-k": (-2, -2, -2, -2),
    "i+j": (0, 2, 2, 0),
    "10-11k": (20, 0, 0, -22),
    "2i": (0, 4, 0, 0),
    "-20j+101k": (0, 0, -40, 202),
    "1/2-3/2i+1/2j+1/2k": (1, -3, 1, 1),
    "-1/2+3/2i+3/2j+1/2k": (-1, 3, 3, 1),
    "-11/2-101/2i-7/2j+999999999/2k": (-11, -101, -7, 999999999),
    "499999999-499999999i": (999999998, -999999998, 0, 0),
}
WRONG_TEXTS = [
    "", "+1", "1i", "0i", "01", "-0", "1+0i", "2/2", "1/2", "i+1", "1 +i", "1/2+1i",
    "1\n", "\n1", "1 ", " 1", "1+i\n", "1+i ", " 1+i", "\n", " ", "1\ni", "1+i\n\n",
    "+", "-", "--1", "+-1", "-+1", "++i", "1++i", "1--i", "1+", "1-", "i-", "1+i+", "00", "+0", "0+i", "i+0",
    "-1i", "1+1i", "1-1k", "1j", "01i", "1+02i", "1+01i", "1+00i", "ii", "ij", "i+i", "1+1", "1+i+i", "2+3", "j+i",
    "k+j", "1+k+i", "i2", "2*i", "2 i", "i/2", "1/2i", "1/2+i+j+k", "1+1/2i+1/2j+1/2k", "1/2+1/2i+1/2j",
    "1/2+1/2i+1/2j+k", "1/2+1/2i+1/2j+0/2k", "2/2+2/2i+2/2j+2/2k", "1/2+1/2i+1/2j+2/2k", "01/2+1/2i+1/2j+1/2k",
    "+1/2+1/2i+1/2j+1/2k", "/2+/2i+/2j+/2k", "1/2+/2i+1/2j+1/2k", "1/2+1/2k+1/2j+1/2i", "1/2/2+1/2i+1/2j+1/2k",
    "1/2+1i/2+1j/2+1k/2", "1/4", "4/2", "6/2i", "1/1", "1/", "/2", "1/2+1/2i+1/2j+1/2k\n", "1/2 +1/2i+1/2j+1/2k",
    "1_0", "1.0", "1e2", "0x1", "I", "1+I", "x", "1+x", "one", "[1]", "(1)", "Four(1)", "1,0,0,0", "1;i", "l", "1+h",
    "\u0661", "\u00b2", "1+\u0662i", "\uff11",
]


def has_the_form(text):
    """Whether a text has the form of the document, told by patterns alone."""
    if text == "0":
        return True
    if text == "" or text[0] == "+":
        return False
    signed = text if text[0] == "-" else "+" + text
    factor = "(?:[2-9]|[1-9][0-9]+)?"
    whole = "(?:[+-][1-9][0-9]*)?" + "".join(f"(?:[+-]{factor}{letter})?" for letter in "ijk")
    half = "".join(f"[+-](?:[1-9][0-9]*)?[13579]/2{letter}" for letter in ("", "i", "j", "k"))
    return bool(re.fullmatch(whole, signed) or re.fullmatch(half, signed))


class Texts(unittest.TestCase):
    def check_read(self, text):
        if has_the_form(text):
            self.assertEqual(Four.read(text).text(), text)
        else:
            self.check_refused(text)

    def check_refused(self, text):
        with self.assertRaises(ParseError, msg=repr(text)) as caught:
            Four.read(text)
        self.assertEqual(caught.exception.at, 0)

    def test_table(self):
        for text, halves in TEXTS.items():
            self.assertEqual(Four(*halves).text(), text)
            self.assertEqual(four_text(halves), text)
            self.assertEqual(Four.read(text).halves, halves)

    def test_wrong_texts(self):
        for text in WRONG_TEXTS:
            self.assertFalse(has_the_form(text), text)
            self.check_refused(text)

    def test_small_fours_are_read_back(self):
        seen = set()
        for halves in itertools.product(range(-5, 6), repeat=4):
            if len({half % 2 for half in halves}) == 1:
                four = Four(*halves)
                self.assertTrue(has_the_form(four.text()), four.text())
                self.assertEqual(Four.read(four.text()).halves, halves)
                self.assertEqual(four_text(halves), four.text())
                seen.add(four.text())
        self.assertEqual(len(seen), 5 ** 4 + 6 ** 4)

    def test_all_short_texts(self):
        for length in range(5):
            for signs in itertools.product("012+-/ijk \n", repeat=length):
                self.check_read("".join(signs))

    def test_changed_texts(self):
        source = random.Random(21)
        signs = "0123456789+-/ijk \n"
        for text in TEXTS:
            for time in range(250):
                at = source.randrange(len(text) + 1)
                kept = source.choice((at, at + 1))
                added = source.choice((source.choice(signs), ""))
                self.check_read(text[:at] + added + text[kept:])

    def test_halves_that_are_no_four(self):
        for halves in ((1, 0, 0, 0), (2, 2, 2), ()):
            with self.assertRaises(InvalidFour) as caught:
                four_text(halves)
            self.assertEqual(caught.exception.given, halves)

    def test_keywords(self):
        self.assertEqual(Four.read(text="1+i"), Four(2, 2, 0, 0))
        self.assertEqual(four_text(halves=(2, 2, 0, 0)), "1+i")

    def test_fours_of_any_length(self):
        for four in (Four(999999999, -999999997, 1, -3), Four(999999998, -999999994, 2, -4)):
            for time in range(11):
                four = four * four
            for long_four in (four, four * Four.whole(2)):
                self.assertGreater(abs(long_four.halves[0]), 10 ** 9000)
                self.assertEqual(Four.read(long_four.text()), long_four)
                self.assertEqual(repr(long_four), "Four(" + long_four.text() + ")")
                self.assertEqual(four_text(long_four.halves), long_four.text())


if __name__ == "__main__":
    unittest.main()
