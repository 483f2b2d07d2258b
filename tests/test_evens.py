"""[G1], [G2]: even_sums, even_count, least_even; [G5] as far as it speaks of them."""

import unittest
from random import Random
from time import perf_counter

from tests.samples import (FULL_4, GREAT, PAIR, ROW, SMALL_WEBS, every_standing, every_tree, every_web, mixed, web_of)
from tests.walking import bearing, great_webs, long_rows, place_sums, some_tree
from unevenroads.errors import TooMany
from unevenroads.evens import even_count, even_sums, least_even
from unevenroads.renamed import renamed_web
from unevenroads.shapes import board_web, full_web, path_web, ring_web

# Webs that are neither trees nor rings, of just 2000 standings, and of the next greater numbers of them.
TAILED = (7, ((0, 1), (0, 2), (1, 2), (2, 3), (3, 4), (4, 5), (5, 6)), (4, 4, 4, 1, 1, 1, 1))
JUST_TOO_MANY = [TAILED[:2] + (most,) for most in [(8, 6, 1, 1, 1, 1, 1), (1, 1, 1, 1, 1, 6, 8), (2, 2, 2, 2, 4, 4, 8)]]
BOTH_CIRCLES = (5, ((0, 1), (0, 2), (1, 2), (2, 3), (2, 4), (3, 4)), (2, 2, 2, 2, 4, 4))


def evens_of(web):
    """For each total the even standings with it, ascending."""
    table = {}
    for standing in every_standing(web):
        sums = place_sums(web, standing)
        if len(set(sums)) == 1:
            table.setdefault(sums[0], []).append(standing)
    return table


def even_in_tree(web, total):
    """The even standing of a tree with total, None if there is none: road by road, from places with one road on."""
    lacks = dict.fromkeys(range(web[0]), total)
    left = dict(enumerate(web[1]))
    loads = {}
    while left:
        for place in range(web[0]):
            own = [road for road, ends in left.items() if place in ends]
            if len(own) == 1:
                a, b = left.pop(own[0])
                loads[own[0]] = lacks[place]
                for end in (a, b):
                    lacks[end] -= loads[own[0]]
    if set(lacks.values()) != {0} or any([not 0 <= loads[road] <= most for road, most in enumerate(web[2])]):
        return None
    return tuple([loads[road] for road in range(len(web[1]))])


class EvensTest(unittest.TestCase):

    def check(self, web, table):
        self.assertEqual(even_sums(web), tuple([(total, len(table[total])) for total in sorted(table)]))
        self.assertEqual(even_count(web), sum([len(found) for found in table.values()]))
        for total in list(range(-2, max(table) + 3)) + [GREAT, -GREAT]:
            self.assertEqual(least_even(web, total), table[total][0] if total in table else None)

    def test_examples(self):
        self.assertEqual(even_sums(path_web(4, 2)), ((0, 1), (1, 1), (2, 1)))
        self.assertEqual(even_sums(path_web(3, 1)), ((0, 1),))
        self.assertEqual(least_even(path_web(4, 2), 2), (2, 0, 2))
        self.assertIsNone(least_even(path_web(4, 2), 3))
        self.assertEqual(even_sums(ring_web(4, 1)), ((0, 1), (1, 2), (2, 1)))
        self.assertEqual(even_count(ring_web(4, 1)), 4)
        self.assertEqual(least_even(ring_web(4, 1), 1), (0, 1, 1, 0))
        self.assertEqual(even_sums(full_web(3, 2)), ((0, 1), (2, 1), (4, 1)))
        self.assertEqual(even_sums(full_web(4, 1)), ((0, 1), (1, 3), (2, 3), (3, 1)))
        self.assertEqual(least_even(full_web(4, 1), 2), (0, 1, 1, 1, 1, 0))
        self.assertIsNone(least_even(full_web(4, 1), -1))
        self.too_many(full_web(6, 1))

    def test_by_name(self):
        self.assertEqual(even_sums(web=path_web(3, 1)), ((0, 1),))
        self.assertEqual(even_count(web=ring_web(4, 1)), 4)
        self.assertEqual(least_even(web=ring_web(4, 1), total=2), (1, 1, 1, 1))

    def test_small_webs(self):
        webs = SMALL_WEBS + [web for n in (2, 3, 4) for web in every_web(n)] + every_web(5)[::9]
        webs.extend([bearing(web, Random(at), 3) for at, web in enumerate(every_web(4))])
        webs.extend([board_web(3, 3, 1), board_web(2, 2, 5), board_web(2, 3, 2), full_web(3, 9), full_web(4, 2)])
        webs.extend([path_web(6, 3), ring_web(5, 3), ring_web(6, 2), ring_web(3, 9), (2, ((0, 1),), (9,))])
        for web in webs:
            if web[0] == 2 or len(every_standing(web)) <= 2000 or len(web[1]) <= web[0]:
                self.check(web, evens_of(web))

    def test_trees(self):
        dice = Random(31)
        webs = [bearing(web_of(n, roads), dice, 3)
                for n, step in ((4, 1), (5, 6), (6, 50)) for roads in every_tree(n)[::step]]
        for n in (7, 12, 23, 24):
            webs.extend([bearing(web_of(n, some_tree(dice, n, back)), dice, 9) for back in (1, 2, 3, 24)])
            # Pairs of places, joined by further roads: with each total up to 9 there is an even standing.
            pairs = [(place, place + 1) for place in range(0, n - 1, 2)]
            further = [(2 * dice.randrange(k), 2 * k + dice.randrange(2)) for k in range(1, n // 2)]
            web = web_of(n // 2 * 2, pairs + further, 9)
            webs.append(renamed_web(web, tuple(dice.sample(range(web[0]), web[0])))[0])
        told = 0
        for web in webs:
            found = {total: even_in_tree(web, total) for total in range(30)}
            table = {total: [standing] for total, standing in found.items() if standing is not None}
            self.check(web, table)
            told = max(told, len(table))
        self.assertEqual(told, 10)

    def test_paths_of_any_length(self):
        for n in range(2, 25):
            for most in (1, 2, 9):
                totals = range(most + 1) if n % 2 == 0 else [0]
                self.check(path_web(n, most), {total: [(total, 0) * (n // 2 - 1) + (total,)] if n % 2 == 0 else
                                               [(0,) * (n - 1)] for total in totals})

    def test_rings_of_any_length(self):
        for web in long_rows()[1::2]:
            n = web[0]
            found = {0: [(0,) * n], 2: [(1,) * n]}
            if n % 2 == 0:
                halves = [standing for standing in [self.half(web, 0), self.half(web, 1)]]
                found[1] = sorted(halves)
            self.check(web, found)
        for most in range(1, 10):
            self.assertEqual(even_sums(ring_web(23, most)), tuple([(2 * load, 1) for load in range(most + 1)]))
            numbers = [(total, min(total, 2 * most - total) + 1) for total in range(2 * most + 1)]
            self.assertEqual(even_sums(ring_web(24, most)), tuple(numbers))
            self.assertEqual(even_count(ring_web(24, most)), (most + 1) ** 2)

    def half(self, web, first):
        """The standing of an even ring of which each second road is laid."""
        loads, road, place = [0] * web[0], 0, web[1][0][0]
        for k in range(web[0]):
            loads[road] = (k + first) % 2
            place = sum(web[1][road]) - place
            road = [other for other, ends in enumerate(web[1]) if place in ends and other != road][0]
        return tuple(loads)

    def test_rings_that_bear_unlike_many(self):
        for most in [(1, 2, 3, 4), (9, 1, 1, 9), (2, 9, 9, 3), (1, 1, 1, 2)]:
            self.check(ring_web(4, 1)[:2] + (most,), evens_of(ring_web(4, 1)[:2] + (most,)))
        for most in [(1, 2, 3, 4, 2), (3, 3, 3, 3, 2)]:
            self.check(ring_web(5, 1)[:2] + (most,), evens_of(ring_web(5, 1)[:2] + (most,)))

    def too_many(self, web):
        for function, rest in [(even_sums, ()), (even_count, ()), (least_even, (0,)), (least_even, (-1,)),
                               (least_even, (GREAT,))]:
            with self.assertRaises(TooMany) as caught:
                function(web, *rest)
            self.assertEqual(caught.exception.limit, 2000)

    def test_webs_of_just_2000_standings_and_of_more(self):
        self.assertEqual(len(every_standing(TAILED)), 2000)
        self.check(TAILED, evens_of(TAILED))
        for web in JUST_TOO_MANY:
            self.assertGreater(len(every_standing(web)), 2000)
            self.too_many(web)
        self.assertEqual(len(every_standing(BOTH_CIRCLES)), 2025)
        self.too_many(BOTH_CIRCLES)
        eleven = web_of(8, [(place, place + 1) for place in range(7)] + [(0, 2), (0, 3), (0, 4)])
        self.assertEqual(len(every_standing(eleven)), 1024)
        self.check(eleven, evens_of(eleven))
        self.too_many(web_of(8, list(eleven[1]) + [(0, 5)]))

    def test_trees_and_rings_have_no_bound(self):
        for web in (path_web(24, 9), ring_web(24, 9), board_web(1, 23, 9), ring_web(4, 9), path_web(6, 9)):
            begin = perf_counter()
            even_sums(web), even_count(web), least_even(web, 3)
            self.assertLess(perf_counter() - begin, 3)
        self.assertEqual(even_count(board_web(1, 23, 9)), 1)

    def test_great_webs(self):
        for web in great_webs():
            if len(web[1]) > web[0]:
                self.too_many(web)

    def test_new_names_change_no_number(self):
        for web in SMALL_WEBS + [TAILED, ring_web(7, 3), path_web(8, 2)]:
            for names in mixed(web[0], 3):
                other = renamed_web(web, names)[0]
                self.assertEqual(even_sums(other), even_sums(web))
                self.assertEqual(even_count(other), even_count(web))

    def test_what_each_place_bears_together(self):
        # Where this is c everywhere there are as many even standings with total as with c - total.
        for web, c in [(ring_web(6, 3), 6), (full_web(4, 2), 6), (board_web(3, 3, 1), 3), (FULL_4, 3), (PAIR, 9),
                       (ring_web(4, 1)[:2] + ((1, 3, 3, 1),), 4)]:
            numbers = dict(even_sums(web))
            for total in range(-1, c + 2):
                self.assertEqual(numbers.get(total, 0), numbers.get(c - total, 0))

    def test_roads_that_bear_unlike_many(self):
        self.assertEqual(even_sums(ROW), ((0, 1), (1, 1)))
        self.assertEqual(even_sums(path_web(4, 1)[:2] + ((3, 1, 2),)), ((0, 1), (1, 1), (2, 1)))
