"""[A8]: standing_error, sums_of, is_even, unlike_roads."""

import unittest

from tests.samples import GREAT, ODD_VALUES, PAIR, ROW, SMALL_WEBS, every_standing
from unevenroads.shapes import path_web
from unevenroads.standings import is_even, standing_error, sums_of, unlike_roads


class StandingErrorTest(unittest.TestCase):

    def check(self, web, value, error):
        self.assertEqual(standing_error(web, value), error)
        self.assertEqual(standing_error(web=web, value=value), error)

    def test_examples(self):
        for value, error in [((1, 0, 2), None), ((1, 2, 0), ("load", 1)), ((1, 0), "form"), ([1, 0, 2], "form"),
                             ((True, 0, 0), ("load", 0))]:
            self.check(ROW, value, error)

    def test_standings(self):
        for web in SMALL_WEBS:
            for standing in every_standing(web):
                self.assertIsNone(standing_error(web, standing))

    def test_form(self):
        for value in [(), (0,), (0, 0), (9, 9), (0, 0, 0, 0), (None, 9, -1, 0), "000",
                      [0, 0, 0], {0: 0, 1: 0, 2: 0}, None, 0, ((0, 0, 0),)]:
            self.check(ROW, value, "form")

    def test_load(self):
        for load in [-1, 2, GREAT, -GREAT, True, False, None, "0", (0,), [0], {}]:
            self.check(ROW, (load, 0, 0), ("load", 0))
            self.check(ROW, (0, load, 9), ("load", 1))
        self.check(ROW, (1, 1, 3), ("load", 2))
        self.check(ROW, (1, 2, 3), ("load", 1))
        self.check(PAIR, (9,), None)
        self.check(PAIR, (10,), ("load", 0))
        self.check(path_web(24, 9), (9,) * 22 + (10,), ("load", 22))

    def test_odd_values(self):
        for value in ODD_VALUES:
            self.assertIsNotNone(standing_error(ROW, value))
            right = value in (0, 1, 2) and not isinstance(value, bool)
            self.check(ROW, (0, 0, value), None if right else ("load", 2))


class SumsTest(unittest.TestCase):

    def test_examples(self):
        self.assertEqual(sums_of(ROW, (1, 0, 2)), (1, 1, 2, 2))
        self.assertIs(is_even(ROW, (1, 0, 2)), False)
        self.assertIs(is_even(ROW, (1, 0, 1)), True)
        self.assertEqual(unlike_roads(ROW, (1, 0, 2)), (1,))
        self.assertEqual(unlike_roads(ROW, (0, 0, 0)), ())

    def test_by_name(self):
        self.assertEqual(sums_of(web=ROW, standing=(1, 1, 1)), (1, 2, 2, 1))
        self.assertIs(is_even(web=ROW, standing=(1, 1, 1)), False)
        self.assertEqual(unlike_roads(web=ROW, standing=(1, 1, 1)), (0, 2))

    def test_all_standings(self):
        for web in SMALL_WEBS:
            n, roads, _ = web
            for standing in every_standing(web):
                sums = tuple([sum([standing[k] for k, ends in enumerate(roads) if x in ends]) for x in range(n)])
                self.assertEqual(sums_of(web, standing), sums)
                self.assertIsInstance(sums_of(web, standing), tuple)
                even = len(set(sums)) == 1
                self.assertIs(is_even(web, standing), even)
                unlike = tuple([k for k, (a, b) in enumerate(roads) if sums[a] != sums[b]])
                self.assertEqual(unlike_roads(web, standing), unlike)
                self.assertIsInstance(unlike_roads(web, standing), tuple)
                self.assertEqual(unlike == (), even)

    def test_sums_make_twice_the_loads(self):
        for web in SMALL_WEBS:
            for standing in every_standing(web):
                self.assertEqual(sum(sums_of(web, standing)), 2 * sum(standing))
