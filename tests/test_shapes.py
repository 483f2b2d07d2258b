"""[A7]: path_web, ring_web, full_web, board_web."""

import unittest

from tests.samples import GREAT
from unevenroads.errors import Unfit
from unevenroads.shapes import board_web, full_web, path_web, ring_web
from unevenroads.webs import web_error

WRONG_MOST = [0, 10, -1, GREAT, -GREAT]


class ShapesTest(unittest.TestCase):

    def test_examples(self):
        self.assertEqual(path_web(3, 2), (3, ((0, 1), (1, 2)), (2, 2)))
        self.assertEqual(ring_web(4, 1), (4, ((0, 1), (0, 3), (1, 2), (2, 3)), (1, 1, 1, 1)))
        self.assertEqual(full_web(3, 1), (3, ((0, 1), (0, 2), (1, 2)), (1, 1, 1)))
        self.assertEqual(board_web(2, 2, 5), (4, ((0, 2), (0, 3), (1, 2), (1, 3)), (5, 5, 5, 5)))
        self.assertRaises(Unfit, full_web, 10, 1)
        self.assertRaises(Unfit, ring_web, 2, 1)

    def test_by_name(self):
        self.assertEqual(path_web(n=2, most=9), (2, ((0, 1),), (9,)))
        self.assertEqual(ring_web(n=3, most=9), (3, ((0, 1), (0, 2), (1, 2)), (9, 9, 9)))
        self.assertEqual(full_web(n=2, most=3), (2, ((0, 1),), (3,)))
        self.assertEqual(board_web(rows=1, columns=2, most=4), (3, ((0, 1), (0, 2)), (4, 4)))

    def check(self, web, n, roads, most):
        self.assertEqual(web, (n, tuple(sorted(roads)), (most,) * len(roads)))
        self.assertIsNone(web_error(web))

    def test_paths_and_rings(self):
        for n in range(2, 25):
            path = [(x, x + 1) for x in range(n - 1)]
            for most in (1, 9):
                self.check(path_web(n, most), n, path, most)
                if n > 2:
                    self.check(ring_web(n, most), n, path + [(0, n - 1)], most)

    def test_full_webs(self):
        for n in range(2, 10):
            for most in (1, 9):
                self.check(full_web(n, most), n, [(a, b) for b in range(n) for a in range(b)], most)

    def test_boards(self):
        fit = 0
        for rows in range(1, 25):
            for columns in range(1, 25):
                if rows + columns <= 24 and rows * columns <= 40:
                    fit += 1
                    roads = [(row, rows + column) for row in range(rows) for column in range(columns)]
                    self.check(board_web(rows, columns, 7), rows + columns, roads, 7)
                else:
                    self.assertRaises(Unfit, board_web, rows, columns, 7)
        self.assertGreater(fit, 60)

    def test_sizes_that_are_none(self):
        for n in [1, 0, -1, -2, -GREAT, 25, 26, 1000, GREAT]:
            for made in (path_web, ring_web, full_web):
                self.assertRaises(Unfit, made, n, 1)
        for n in range(10, 25):
            self.assertRaises(Unfit, full_web, n, 1)

    def test_boards_that_are_none(self):
        for rows, columns in [(0, 0), (0, 3), (3, 0), (-1, 4), (4, -1), (-1, -1),
                              (GREAT, 5 - GREAT), (5 - GREAT, GREAT),
                              (GREAT, GREAT), (1, GREAT), (GREAT, 1), (1, 24), (24, 1), (12, 12), (7, 6), (3, 14)]:
            self.assertRaises(Unfit, board_web, rows, columns, 1)

    def test_what_no_road_bears(self):
        for most in WRONG_MOST:
            self.assertRaises(Unfit, path_web, 4, most)
            self.assertRaises(Unfit, ring_web, 4, most)
            self.assertRaises(Unfit, full_web, 4, most)
            self.assertRaises(Unfit, board_web, 2, 2, most)
