"""[G3]: even_boards, even_fulls; [G5] as far as it speaks of them."""

import unittest
from itertools import product
from time import perf_counter

from tests.samples import GREAT
from unevenroads.evencounts import even_boards, even_fulls
from unevenroads.evens import even_sums
from unevenroads.shapes import board_web, full_web


def shares(total, many, most):
    """All ways to write total as the sum of so many integers from 0 to most."""
    if many == 0:
        return [()] if total == 0 else []
    return [(first,) + rest for first in range(min(most, total) + 1) for rest in shares(total - first, many - 1, most)]


def boards_row_by_row(m, most, total):
    """How many even boards there are: a table of what the columns have got, in any order."""
    table = {(0,) * m: 1}
    for _ in range(m):
        behind = {}
        for got, ways in table.items():
            for row in shares(total, m, most):
                sums = tuple([a + b for a, b in zip(got, row)])
                if max(sums) <= total:
                    behind[sums] = behind.get(sums, 0) + ways
        table = behind
    return table.get((total,) * m, 0)


def fulls_road_by_road(n, most, total):
    """How many even standings the full web has: a table of the sums of all places, road by road."""
    table = {(0,) * n: 1}
    for a in range(n):
        for b in range(a + 1, n):
            behind = {}
            for sums, ways in table.items():
                for load in range(most + 1):
                    then = list(sums)
                    then[a] += load
                    then[b] += load
                    if max(then) <= total:
                        behind[tuple(then)] = behind.get(tuple(then), 0) + ways
            table = behind
        table = {sums: ways for sums, ways in table.items() if sums[a] == total}
    return table.get((total,) * n, 0)


class BoardsTest(unittest.TestCase):

    def test_examples(self):
        self.assertEqual(even_boards(3, 1, 1), 6)
        self.assertEqual(even_boards(3, 9, 2), 21)
        self.assertEqual(even_boards(2, 3, 5), 2)
        self.assertEqual(even_boards(5, 1, 2), 2040)
        self.assertEqual(even_boards(1, 3, 4), 0)
        self.assertEqual(even_boards(m=3, most=1, total=1), 6)

    def test_boards_of_one_cell_and_of_two_rows(self):
        for most in range(1, 10):
            for total in range(-1, 2 * most + 2):
                self.assertEqual(even_boards(1, most, total), 1 if 0 <= total <= most else 0)
                cells = [load for load in range(most + 1) if 0 <= total - load <= most]
                self.assertEqual(even_boards(2, most, total), len(cells))

    def test_row_by_row(self):
        for m, most, totals in [(3, 1, range(-1, 5)), (3, 2, range(8)), (3, 5, range(17)), (3, 9, range(0, 29, 4)),
                                (4, 1, range(6)), (4, 2, range(0, 10, 2)), (4, 9, (1, 2, 3)), (5, 1, range(7)),
                                (5, 2, (1, 2, 9)), (5, 3, (2,))]:
            for total in totals:
                self.assertEqual(even_boards(m, most, total), boards_row_by_row(m, most, total), (m, most, total))

    def test_even_standings_of_board_webs(self):
        for m, most in [(1, 9), (2, 5), (3, 1)]:
            numbers = dict(even_sums(board_web(m, m, most)))
            for total in range(-1, m * most + 2):
                self.assertEqual(even_boards(m, most, total), numbers.get(total, 0))

    def test_squares_of_integers_without_bound(self):
        # As long as total is not above most: known numbers of squares of integers from 0 on with such sums.
        for m, numbers in [(3, (1, 6, 21, 55, 120, 231, 406, 666, 1035, 1540)),
                           (4, (1, 24, 282, 2008, 10147, 40176)), (5, (1, 120, 6210, 153040, 2224955))]:
            for total, number in enumerate(numbers):
                self.assertEqual(even_boards(m, 9, total), number)
                self.assertEqual(even_boards(m, max(1, total), total), number)

    def test_turned_to_what_is_left(self):
        for m, most in product(range(1, 5), (1, 2, 3, 5)):
            for total in range(m * most + 1):
                self.assertEqual(even_boards(m, most, total), even_boards(m, most, m * most - total))

    def test_totals_below_nought_and_beyond_what_roads_bear(self):
        for m, most in product(range(1, 6), (1, 9)):
            for total in (-1, -GREAT, m * most + 1, GREAT):
                self.assertEqual(even_boards(m, most, total), 0)
            self.assertEqual(even_boards(m, most, 0), 1)
            self.assertEqual(even_boards(m, most, m * most), 1)

    def test_the_greatest_boards(self):
        for total, number in [(22, 173439298638750), (23, 173439298638750)]:
            begin = perf_counter()
            self.assertEqual(even_boards(5, 9, total), number)
            self.assertLess(perf_counter() - begin, 8)

    def test_all_boards_of_four_rows(self):
        # The two upper rows and the two lower ones have to fit together.
        for total in (17,):
            halves = {}
            for one in shares(total, 4, 9):
                for other in shares(total, 4, 9):
                    sums = tuple([a + b for a, b in zip(one, other)])
                    halves[sums] = halves.get(sums, 0) + 1
            many = sum([ways * halves.get(tuple([total - got for got in sums]), 0) for sums, ways in halves.items()])
            self.assertEqual(even_boards(4, 9, total), many)


class FullsTest(unittest.TestCase):

    def test_examples(self):
        self.assertEqual(even_fulls(4, 1, 2), 3)
        self.assertEqual(even_fulls(6, 1, 1), 15)
        self.assertEqual(even_fulls(5, 1, 1), 0)
        self.assertEqual(even_fulls(7, 1, 2), 465)
        self.assertEqual(even_fulls(3, 9, 4), 1)
        self.assertEqual(even_fulls(2, 9, 7), 1)
        self.assertEqual(even_fulls(n=4, most=1, total=2), 3)

    def test_road_by_road(self):
        for n, most, totals in [(2, 1, range(-1, 4)), (2, 9, range(11)), (3, 1, range(4)), (3, 4, range(10)),
                                (4, 1, range(5)), (4, 3, range(11)), (4, 9, range(0, 28, 3)), (5, 1, range(6)),
                                (5, 2, range(10)), (5, 4, (4, 7, 8)), (6, 1, range(7)), (6, 2, (2, 5, 8)),
                                (7, 1, (2, 4))]:
            for total in totals:
                self.assertEqual(even_fulls(n, most, total), fulls_road_by_road(n, most, total), (n, most, total))

    def test_even_standings_of_full_webs(self):
        for n, most in [(2, 9), (3, 9), (4, 2), (5, 1)]:
            numbers = dict(even_sums(full_web(n, most)))
            for total in range(-1, (n - 1) * most + 2):
                self.assertEqual(even_fulls(n, most, total), numbers.get(total, 0))

    def test_regular_webs(self):
        # Known numbers of webs of six and seven places of which each has as many roads.
        self.assertEqual([even_fulls(6, 1, total) for total in range(6)], [1, 15, 70, 70, 15, 1])
        self.assertEqual([even_fulls(7, 1, total) for total in range(7)], [1, 0, 465, 0, 465, 0, 1])

    def test_turned_to_what_is_left(self):
        for n, most in product(range(2, 7), (1, 2, 3)):
            for total in range((n - 1) * most + 1):
                self.assertEqual(even_fulls(n, most, total), even_fulls(n, most, (n - 1) * most - total))
                if n % 2 == 1 and total % 2 == 1:
                    self.assertEqual(even_fulls(n, most, total), 0)

    def test_totals_below_nought_and_beyond_what_roads_bear(self):
        for n, most in product(range(2, 8), (1, 9)):
            for total in (-1, -GREAT, (n - 1) * most + 1, GREAT):
                self.assertEqual(even_fulls(n, most, total), 0)
            self.assertEqual(even_fulls(n, most, 0), 1)
            self.assertEqual(even_fulls(n, most, (n - 1) * most), 1)

    def test_the_greatest_webs(self):
        for total, number in [(26, 2994850203084), (27, 0)]:
            begin = perf_counter()
            self.assertEqual(even_fulls(7, 9, total), number)
            self.assertLess(perf_counter() - begin, 8)
