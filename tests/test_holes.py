"""[H1] to [H4]: hole_walk, pairings, nearest_pairs, may_drop, is_stubborn."""

import unittest
from itertools import combinations, product
from math import comb
from random import Random
from time import perf_counter

from tests.samples import (FORK, FULL_4, KITE, PAIR, ROUND_4, ROUND_5, ROW, ROW_5, STAR, WIDE_FORK, every_tree,
                           every_web, has, is_parted, least_steps, web_of)
from tests.walking import (bearing, fault_along, great_webs, place_sums, small_rows, some_pairing, some_parted,
                           some_web, with_bound)
from unevenroads.errors import TooMany, Unfit
from unevenroads.holes import hole_walk, is_stubborn, may_drop, nearest_pairs, pairings
from unevenroads.lessening import lessened
from unevenroads.pairings import dropped, passed
from unevenroads.shapes import board_web, full_web, path_web, ring_web
from unevenroads.walls import is_near

# A web with just 2000 pairings of five pairs, all of one walk, and one with 2001 pairings of four pairs.
JUST = web_of(18, [(0, 2), (0, 10), (0, 15), (1, 3), (1, 7), (2, 11), (3, 11), (4, 8), (4, 15), (4, 17), (5, 13),
                   (6, 7), (6, 16), (8, 12), (8, 13), (9, 14), (9, 16), (10, 12), (14, 17)])
ONE_MORE = web_of(20, [(0, 2), (0, 17), (1, 8), (3, 8), (3, 11), (3, 16), (4, 8), (4, 9), (4, 14), (5, 6), (6, 13),
                       (6, 15), (7, 18), (9, 18), (10, 18), (11, 12), (11, 13), (12, 17), (14, 15), (17, 19), (18, 19)])


def laid_on(web, roads):
    """The standing with these roads laid."""
    return tuple([1 if road in roads else 0 for road in range(len(web[1]))])


def all_pairings(web, many):
    """All pairings of so many pairs."""
    found = []
    for roads in combinations(range(len(web[1])), many):
        if len(set([place for road in roads for place in web[1][road]])) == 2 * many:
            found.append(laid_on(web, roads))
    return tuple(sorted(found))


def told(function, *arguments):
    """What the call returns, None if it raises Unfit."""
    try:
        return function(*arguments)
    except Unfit:
        return None


def walk_of(web, standing):
    """All pairings to which steps lead: by passed, with any places."""
    reached = [standing]
    for one in reached:
        for place, hole in product(range(web[0]), repeat=2):
            way = told(passed, web, one, place, hole)
            if way is not None:
                end = fault_along(web, one, way)
                if end not in reached:
                    reached.append(end)
    return tuple(sorted(reached))


def drops_of(web, standing):
    """All triples of places for which dropped returns a way."""
    return tuple([places for places in product(range(web[0]), repeat=3)
                  if told(dropped, web, standing, *places) is not None])


def small_webs():
    """Small webs of all kinds."""
    webs = [PAIR, ROW, ROW_5, ROUND_4, ROUND_5, FORK, FULL_4, KITE, WIDE_FORK, STAR, with_bound(STAR, 0, 9)]
    webs.extend(every_web(4)[::3] + every_web(5)[::41] + small_rows()[::4])
    webs.extend([web_of(n, roads) for n, step in ((5, 30), (6, 200), (7, 3000)) for roads in every_tree(n)[::step]])
    return webs


class HolesTest(unittest.TestCase):

    def test_examples(self):
        self.assertEqual(hole_walk(STAR, (0, 0, 0, 1, 1, 1)), ((0, 0, 0, 1, 1, 1), (0, 0, 1, 1, 1, 0),
                                                               (0, 1, 0, 1, 0, 1), (1, 0, 0, 0, 1, 1)))
        self.assertEqual(hole_walk(FORK, (1, 0, 0, 1)), ((0, 1, 0, 1), (1, 0, 0, 1)))
        self.assertEqual(hole_walk(FORK, (0, 0, 0, 0)), ((0, 0, 0, 0),))
        self.assertEqual(pairings(FORK, 2), ((0, 1, 0, 1), (1, 0, 0, 1)))
        self.assertEqual(len(pairings(STAR, 2)), 9)
        self.assertEqual(pairings(FORK, 3), ())
        self.assertRaises(Unfit, hole_walk, FORK, (1, 1, 0, 0))
        self.assertEqual(nearest_pairs(STAR, (0, 0, 0, 1, 1, 1)), (2, 3, 4))
        self.assertEqual(nearest_pairs(STAR, (1, 0, 0, 0, 0, 1)), (1, 0, 5))
        self.assertIsNone(nearest_pairs(FORK, (0, 0, 0, 1)))
        self.assertEqual(may_drop(FORK, (1, 0, 0, 1)), ((0, 2, 3),))
        self.assertEqual(may_drop(STAR, (0, 0, 0, 1, 1, 1)), ())
        self.assertEqual(may_drop(STAR, (1, 0, 0, 0, 0, 1)), ((0, 5, 6),))
        stubborn = [is_stubborn(STAR, one) for one in ((0, 0, 0, 1, 1, 1), (1, 0, 0, 0, 0, 1), (1, 0, 0, 0, 0, 0))]
        self.assertEqual(stubborn, [True, False, False])
        self.assertIs(is_stubborn(FORK, (0, 1, 0, 1)), False)

    def test_by_name(self):
        standing = (1, 0, 0, 1)
        self.assertEqual(len(hole_walk(web=FORK, standing=standing)), 2)
        self.assertEqual(len(pairings(web=FORK, many=1)), 4)
        self.assertEqual(nearest_pairs(web=FORK, standing=standing), (1, 0, 3))
        self.assertEqual(may_drop(web=FORK, standing=standing), ((0, 2, 3),))
        self.assertIs(is_stubborn(web=FORK, standing=standing), False)

    def test_all_pairings_of_small_webs(self):
        for web in small_webs():
            steps = least_steps(web)
            for many in range(web[0] // 2 + 1):
                walks = {}
                for standing in all_pairings(web, many):
                    if standing not in walks:
                        walk = walk_of(web, standing)
                        walks.update({one: walk for one in walk})
                    self.assertEqual(hole_walk(web, standing), walks[standing])
                    drops = drops_of(web, standing)
                    self.assertEqual(may_drop(web, standing), drops)
                    self.check_nearest(web, standing, steps)
                for standing, walk in walks.items():
                    stuck = not any([drops_of(web, one) for one in walk])
                    right = many > 1 and 2 * many < web[0] and stuck
                    self.assertIs(is_stubborn(web, standing), right)

    def check_nearest(self, web, standing, steps):
        laid = [road for road, load in enumerate(standing) if load]
        found = []
        for road, further in combinations(laid, 2):
            found.append((min([steps[a][b] for a in web[1][road] for b in web[1][further]]), road, further))
        self.assertEqual(nearest_pairs(web, standing), min(found) if found else None)

    def test_numbers_of_pairs(self):
        for web in small_webs() + [board_web(2, 4, 3), full_web(6, 1), bearing(KITE, Random(1), 9)]:
            for many in range(web[0] + 2):
                self.assertEqual(pairings(web, many), all_pairings(web, many))
            for many in (web[0], 12, 13, 100, 10 ** 30):
                self.assertEqual(pairings(web, many), ())

    def test_pairings_of_rows_and_full_webs(self):
        for n in range(3, 25):
            for many in range(n // 2 + 1):
                path = comb(n - many, many)
                ring = path + (comb(n - 1 - many, many - 1) if many else 0)
                for web, number in [(path_web(n, 1), path), (ring_web(n, 9), ring)]:
                    if number > 2000:
                        self.too_many(pairings, web, many)
                    else:
                        self.assertEqual(len(set(pairings(web, many))), number)
        self.assertEqual([len(pairings(full_web(8, 1), many)) for many in range(6)], [1, 28, 210, 420, 105, 0])

    def too_many(self, function, *arguments):
        with self.assertRaises(TooMany) as caught:
            function(*arguments)
        self.assertEqual(caught.exception.limit, 2000)

    def test_just_2000_and_more(self):
        found = pairings(JUST, 5)
        self.assertEqual((len(found), len(set(found))), (2000, 2000))
        self.assertEqual(list(found), sorted(found))
        for standing in (found[0], found[999], found[-1]):
            self.assertEqual(hole_walk(JUST, standing), found)
            self.assertIs(is_stubborn(JUST, standing), False)
        self.too_many(pairings, ONE_MORE, 4)
        standing = laid_on(ONE_MORE, (16, 17, 18, 20))
        self.too_many(hole_walk, ONE_MORE, standing)
        self.too_many(is_stubborn, ONE_MORE, standing)
        self.too_many(hole_walk, path_web(24, 1), laid_on(path_web(24, 1), range(0, 12, 2)))
        self.too_many(is_stubborn, path_web(24, 1), laid_on(path_web(24, 1), range(0, 12, 2)))
        self.assertEqual(len(hole_walk(path_web(24, 1), laid_on(path_web(24, 1), (0, 2, 5)))), comb(21, 3))
        # Something can be dropped at once, and still there are too many to go through.
        comb_web = web_of(24, [(place, place + 1) for place in range(22)] + [(1, 23)])
        standing = laid_on(comb_web, (0, 3, 6, 9, 12))
        self.assertNotEqual(may_drop(comb_web, standing), ())
        self.too_many(is_stubborn, comb_web, standing)

    def test_great_webs(self):
        dice = Random(71)
        for web in great_webs() + [JUST, ONE_MORE]:
            for many in (0, 1, 2, 4, 12):
                standing = some_pairing(web, dice, many)
                begin = perf_counter()
                try:
                    walk = hole_walk(web, standing)
                except TooMany:
                    self.too_many(is_stubborn, web, standing)
                else:
                    self.assertIn(standing, walk)
                    self.assertEqual(hole_walk(web, walk[-1]), walk)
                    stuck = all([may_drop(web, one) == () for one in walk])
                    right = stuck and sum(standing) > 1 and 0 in place_sums(web, standing)
                    self.assertIs(is_stubborn(web, standing), right)
                self.check_nearest(web, standing, least_steps(web))
                for places in may_drop(web, standing):
                    self.assertEqual(len(dropped(web, standing, *places)), 5)
                self.assertLess(perf_counter() - begin, 8)
            for many in range(14):
                begin = perf_counter()
                try:
                    self.assertLessEqual(len(pairings(web, many)), 2000)
                except TooMany:
                    pass
                self.assertLess(perf_counter() - begin, 3)

    def test_few_pairings_of_as_many_pairs_as_can_be(self):
        dice = Random(72)
        for _ in range(12):
            web = some_web(dice, 24, dice.choice((3, 9, 17)))
            for many in (10, 11, 12):
                try:
                    found = pairings(web, many)
                except TooMany:
                    continue
                self.assertEqual(len(set(found)), len(found))
                for standing in found:
                    self.assertEqual((sum(standing), max(place_sums(web, standing))), (many, 1))
                drawn = max([some_pairing(web, dice, many) for _ in range(60)], key=sum)
                if sum(drawn) == many:
                    self.assertIn(drawn, found)
        for web, number in [(path_web(24, 1), 1), (ring_web(24, 1), 2), (board_web(4, 10, 1), 0),
                            (board_web(1, 23, 1), 0), (web_of(24, [(place // 2, place) for place in range(1, 24)]), 0)]:
            self.assertEqual(len(pairings(web, 12)), number)

    def test_no_pairings(self):
        for web, standing in [(FORK, (1, 1, 0, 0)), (FORK, (1, 1, 1, 1)), (PAIR, (2,)), (WIDE_FORK, (2, 0, 0)),
                              (path_web(24, 1), (1,) * 23), (path_web(24, 2), (2,) + (0,) * 22),
                              (board_web(5, 8, 9), (9,) * 40)]:
            for function in (hole_walk, nearest_pairs, may_drop, is_stubborn):
                self.assertRaises(Unfit, function, web, standing)

    def test_pairings_without_a_hole_and_without_a_pair(self):
        for web in (PAIR, path_web(6, 1), ring_web(8, 2), full_web(6, 1), board_web(3, 3, 1)):
            for standing in pairings(web, web[0] // 2):
                self.assertEqual(hole_walk(web, standing), (standing,))
                self.assertEqual(may_drop(web, standing), ())
                self.assertIs(is_stubborn(web, standing), False)
            bare = (0,) * len(web[1])
            self.assertEqual(hole_walk(web, bare), (bare,))
            self.assertIsNone(nearest_pairs(web, bare))
            self.assertEqual(pairings(web, 0), (bare,))

    def test_one_pair_goes_everywhere(self):
        for web in (ROW_5, STAR, KITE, board_web(5, 8, 1), path_web(24, 1), full_web(9, 3)):
            standing = laid_on(web, (0,))
            self.assertEqual(hole_walk(web, standing), tuple(sorted([laid_on(web, (k,)) for k in range(len(web[1]))])))
            self.assertIs(is_stubborn(web, standing), False)
            self.assertIsNone(nearest_pairs(web, standing))

    def test_which_are_stubborn(self):
        dice = Random(73)
        webs = [web for n in (5, 6, 7, 8) for web in [path_web(n, 1), ring_web(n, 1), some_web(dice, n, 1)]]
        webs.extend([some_parted(dice, spots) for spots in (4, 5, 6)] + every_web(5)[::60])
        webs.extend([web_of(n, roads) for n, step in ((5, 20), (6, 150), (7, 1500)) for roads in every_tree(n)[::step]])
        for web in webs:
            for many in range(2, (web[0] + 1) // 2):
                for standing in pairings(web, many):
                    near = is_parted(web) and is_near(web, standing)
                    stubborn = is_stubborn(web, standing)
                    self.assertIs(stubborn, max(has(web)) < 3 or near)
                    self.assertIs(stubborn, lessened(web, standing) is None)

    def test_the_walk_of_a_near_pairing_has_one_for_each_spot(self):
        dice = Random(74)
        for spots in (3, 4, 5, 7, 12):
            web = some_parted(dice, spots)
            for standing in pairings(web, spots - 1):
                walk = hole_walk(web, standing)
                self.assertEqual(len(walk), spots)
                self.assertEqual(len(set([place_sums(web, one).index(0) for one in walk])), spots)
                self.assertIs(is_stubborn(web, standing), True)
