"""[A9]: web_text, read_web, standing_text, read_standing; [A11] as far as it speaks of these."""

import unittest

from tests.samples import GREAT, ODD_VALUES, PAIR, ROW, SMALL_WEBS, every_standing
from unevenroads.errors import BadText
from unevenroads.shapes import board_web, full_web, path_web, ring_web
from unevenroads.webtexts import read_standing, read_web, standing_text, web_text

LARGE_WEBS = [path_web(24, 9), ring_web(24, 1), full_web(9, 4), board_web(2, 20, 3)]

# All signs of printable ASCII, and the line feed.
SIGNS = [chr(code) for code in range(32, 127)] + ["\n"]

NO_WEBS = [
    "", " ", "2", "2 ", " 2 0-1:1", "2 0-1:1 ", "2  0-1:1", "2\n0-1:1", "2 0-1:1\n", "\n2 0-1:1", "2\t0-1:1",
    "02 0-1:1", "2 00-1:1", "2 0-01:1", "2 0-1:01", "+2 0-1:1", "2 +0-1:1", "2 0-+1:1", "2 0-1:+1", "2 0--1:1",
    "2 -0-1:1", "-2 0-1:1", "2 0-1:-1", "2 0_1:1", "2 0-1", "2 0:1", "2 0-1:", "2 0-:1", "2 -1:1", "2 -:", "2 :", "2 -",
    "2 0-1:1:1", "2 0-1-1:1", "2 0:1-1", "2 0 - 1:1", "2 0-1 :1", "2 0-1: 1", "2.0 0-1:1", "a 0-1:1", "2 a-b:c",
    "2 0-1:0", "2 0-1:10", "2 1-0:1", "2 0-0:1", "2 0-2:1", "1 0-1:1", "25 0-1:1", "3 0-1:1", "3 0-1:1 0-1:1",
    "3 1-2:1 0-1:1", "3 0-1:2 0-1:9", "4 0-1:1 2-3:1", "2,0-1:1", "2 0-1:1,", "1_0 0-1:1", "2 0-1:1_0", "0x2 0-1:1",
    "2 0-1:\u0661", "\uff12 0-1:1", "2 0-1:\u00b2", "\u0662 0-1:1", "(2, ((0, 1),), (1,))",
    "9" * 5000, "2 0-1:" + "9" * 5000, "2 0-1:" + "0" * 5000 + "1", "2 " + "1" * 5000 + "-1:1", "2 0-1:1" * 500,
]


class WebTextTest(unittest.TestCase):

    def test_examples(self):
        self.assertEqual(web_text(ROW), "4 0-1:1 1-2:1 2-3:2")
        self.assertEqual(read_web("3 0-1:2 1-2:9"), (3, ((0, 1), (1, 2)), (2, 9)))
        self.assertRaises(BadText, read_web, "3 0-1:2 0-1:9")

    def test_by_name(self):
        self.assertEqual(web_text(web=PAIR), "2 0-1:9")
        self.assertEqual(read_web(value="2 0-1:9"), PAIR)

    def test_two_figures(self):
        text = "24 " + " ".join([f"{x}-{x + 1}:9" for x in range(23)])
        self.assertEqual(web_text(path_web(24, 9)), text)
        self.assertEqual(read_web(text), path_web(24, 9))

    def test_there_and_back(self):
        for web in SMALL_WEBS + LARGE_WEBS:
            self.assertEqual(read_web(web_text(web)), web)

    def test_texts_of_no_web(self):
        for text in NO_WEBS:
            self.assertRaises(BadText, read_web, text)

    def test_a_text_with_one_sign_more_or_less(self):
        text = web_text(ROW)
        for place in range(len(text)):
            longer = [text[:place] + sign + text[place:] for sign in " -:0a\n"]
            for spoilt in longer + [text[:place] + text[place + 1:]]:
                try:
                    web = read_web(spoilt)
                except BadText:
                    continue
                self.assertEqual(web_text(web), spoilt)

    def test_signs_that_are_no_figures(self):
        for sign in SIGNS:
            if sign not in "123456789":
                self.assertRaises(BadText, read_web, "2 0-1:" + sign)
                self.assertRaises(BadText, read_web, sign + " 0-1:1")
                self.assertRaises(BadText, read_web, "2 0-" + sign + ":1")
            if sign != "0":
                self.assertRaises(BadText, read_web, "2 " + sign + "-1:1")
            if sign not in "0123456789":
                self.assertRaises(BadText, read_web, "2" + sign + " 0-1:1")
                self.assertRaises(BadText, read_standing, ROW, "01" + sign)

    def test_odd_values(self):
        for value in ODD_VALUES + [ROW, web_text(ROW).encode(), [web_text(ROW)], (web_text(ROW),)]:
            self.assertRaises(BadText, read_web, value)


class StandingTextTest(unittest.TestCase):

    def test_examples(self):
        self.assertEqual(standing_text((1, 0, 2)), "102")
        self.assertEqual(read_standing(ROW, "012"), (0, 1, 2))
        self.assertRaises(BadText, read_standing, ROW, "013")

    def test_by_name(self):
        self.assertEqual(standing_text(standing=(9,)), "9")
        self.assertEqual(read_standing(web=PAIR, value="9"), (9,))

    def test_there_and_back(self):
        for web in SMALL_WEBS:
            for standing in every_standing(web):
                text = standing_text(standing)
                self.assertEqual(len(text), len(standing))
                self.assertEqual(read_standing(web, text), standing)

    def test_texts_of_no_standing(self):
        for text in ["", "0", "01", "0120", "0 12", " 012", "012 ", "012\n", "\n12", "-12", "+12", "0-1", "0_1", "0a2",
                     "020", "200", "999", "01\u0661", "01\uff11", "01\u00b2", "0,1,2", "(0, 1, 2)", "9" * 5000]:
            self.assertRaises(BadText, read_standing, ROW, text)

    def test_odd_values(self):
        for value in ODD_VALUES + [(0, 1, 2), [0, 1, 2], 12, 102, ["012"], ("0", "1", "2"), b"012", GREAT]:
            self.assertRaises(BadText, read_standing, ROW, value)
