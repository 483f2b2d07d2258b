"""[K1], [K3]: closed_way; [K5] as far as it speaks of it."""

import unittest
from itertools import combinations
from random import Random
from time import perf_counter

from tests.samples import FORK, FULL_4, KITE, PAIR, ROUND_5, ROW, ROW_5, STAR, WIDE_FORK, every_standing
from tests.walking import (CLASS_2000, CLASS_2015, distances, fault_along, great_webs, long_rows, some_small_webs,
                           some_standing)
from unevenroads.closed import closed_way
from unevenroads.errors import TooMany
from unevenroads.joining import joined
from unevenroads.shapes import path_web, ring_web
from unevenroads.ways import turned

# From the standing just 2000 standings can be come to past the closed roads; with one of these open, more.
PAST_ONE = ((8, ((0, 3), (1, 2), (1, 4), (1, 5), (3, 5), (3, 6), (6, 7)), (1, 1, 4, 4, 4, 3, 4)), (0, 0, 4, 3, 1, 3, 2),
            (3,))
PAST_TWO = ((7, ((0, 1), (0, 2), (0, 3), (0, 4), (1, 6), (2, 4), (2, 6), (3, 5)), (4, 3, 4, 4, 1, 1, 2, 3)),
            (4, 3, 1, 2, 0, 1, 2, 1), (6, 7))
PAST_THREE = ((10, ((0, 1), (0, 6), (0, 7), (1, 3), (1, 8), (2, 7), (4, 5), (5, 9), (7, 9)),
               (1, 1, 4, 4, 4, 1, 1, 2, 3)),
              (1, 1, 2, 2, 3, 1, 0, 1, 1), (0, 6, 7))


class ClosedTest(unittest.TestCase):

    def setUp(self):
        self.row, self.wide = ROW_5, (3, ((0, 1), (1, 2)), (2, 2))

    def too_many(self, *arguments):
        with self.assertRaises(TooMany) as caught:
            closed_way(*arguments)
        self.assertEqual(caught.exception.limit, 2000)

    def check(self, web, one, other, closed, reached):
        """Whether a way is told just where there is one, reached being all that can be come to."""
        way = closed_way(web, one, other, closed)
        if other not in reached:
            self.assertIsNone(way, (web, one, other, closed))
            return
        self.assertEqual(fault_along(web, one, way), other)
        self.assertEqual([road for road, _ in way if road in closed], [])
        if one == other:
            self.assertEqual(way, ())

    def test_examples(self):
        row, wide = self.row, self.wide
        self.assertEqual(closed_way(row, (1, 0, 0, 0), (0, 1, 0, 0), ()), ((1, 1), (0, -1)))
        self.assertEqual(closed_way(row, (1, 0, 0, 0), (0, 1, 0, 0), (2, 3)), ((1, 1), (0, -1)))
        self.assertIsNone(closed_way(row, (1, 0, 0, 0), (0, 1, 0, 0), (1,)))
        self.assertEqual(closed_way(row, (0, 0, 0, 0), (0, 0, 0, 0), (0, 1, 2, 3)), ())
        self.assertIsNone(closed_way(wide, (1, 0), (2, 0), (1,)))
        self.assertEqual(closed_way(wide, (2, 0), (1, 0), ()), ((1, 1), (0, -1), (1, -1)))

    def test_by_name(self):
        self.assertEqual(closed_way(web=self.row, one=(1, 0, 0, 0), other=(1, 1, 0, 0), closed=(3,)), ((1, 1),))

    def test_all_deeds_of_small_webs(self):
        dice = Random(141)
        for web in [PAIR, ROW, ROUND_5, FORK, WIDE_FORK, self.wide, STAR, KITE] + some_small_webs()[::5]:
            standings, roads = every_standing(web), range(len(web[1]))
            for many in range(len(web[1]) + 1):
                for closed in list(combinations(roads, many))[::5]:
                    one = dice.choice(standings)
                    reached = distances(web, one, closed)
                    for other in [one] + dice.sample(standings, min(9, len(standings))) + list(reached)[-3:]:
                        self.check(web, one, other, closed, reached)

    def test_no_road_closed_and_all_of_them(self):
        dice = Random(142)
        for web in (ROW, ROW_5, ROUND_5, STAR, KITE, FULL_4):
            for _ in range(12):
                one, other = some_standing(web, dice), some_standing(web, dice)
                self.assertIs(closed_way(web, one, other, ()) is not None, joined(web, one, other))
                every = tuple(range(len(web[1])))
                self.assertEqual(closed_way(web, one, one, every), ())
                self.assertIs(closed_way(web, one, other, every), () if one == other else None)

    def test_a_road_more_closed_and_the_way_back(self):
        dice = Random(143)
        for web in (ROW, ROUND_5, STAR, KITE, FULL_4, WIDE_FORK):
            for _ in range(25):
                one, other = some_standing(web, dice), some_standing(web, dice)
                order = dice.sample(range(len(web[1])), len(web[1]))
                was = True
                for many in range(len(order) + 1):
                    closed = tuple(sorted(order[:many]))
                    way = closed_way(web, one, other, closed)
                    self.assertTrue(was or way is None)
                    was = way is not None
                    self.assertIs(closed_way(web, other, one, closed) is not None, was)
                    if was:
                        self.assertEqual(fault_along(web, other, turned(way)), one)

    def test_just_2000_and_more(self):
        for web, one, closed in (PAST_ONE, PAST_TWO, PAST_THREE, (CLASS_2000, (1, 0, 0, 0), ())):
            reached = distances(web, one, closed)
            self.assertEqual(len(reached), 2000)
            for other in (one, list(reached)[1999], list(reached)[77], (0,) * len(one)):
                self.check(web, one, other, closed, reached)
            if closed:
                fewer = closed[1:]
                self.assertGreater(len(distances(web, one, fewer)), 2000)
                self.too_many(web, one, one, fewer)
                self.too_many(web, one, list(reached)[1], fewer)
                self.too_many(web, one, (0,) * len(one), fewer)
        self.assertEqual(len(distances(CLASS_2015, (1, 0, 0, 0))), 2015)
        for other in [(1, 0, 0, 0), (2, 0, 0, 0), (3, 6, 7, 8), (0, 0, 0, 0)]:
            self.too_many(CLASS_2015, (1, 0, 0, 0), other, ())
        self.assertEqual(closed_way(CLASS_2015, (0, 0, 0, 0), (0, 0, 0, 0), ()), ())
        self.assertIsNone(closed_way(CLASS_2015, (0, 0, 0, 0), (1, 0, 0, 0), ()))

    def test_no_call_takes_long(self):
        dice = Random(144)
        for web in great_webs() + long_rows()[-4:] + [path_web(24, 9), ring_web(12, 1)]:
            for many in (0, 1, 10, len(web[1]) - 4, len(web[1])):
                closed = tuple(sorted(dice.sample(range(len(web[1])), min(many, len(web[1])))))
                one, other = some_standing(web, dice), some_standing(web, dice)
                begin = perf_counter()
                try:
                    way = closed_way(web, one, other, closed)
                    if way is not None:
                        self.assertEqual(fault_along(web, one, way), other)
                except TooMany:
                    self.assertNotEqual(len(closed), len(web[1]))
                self.assertLess(perf_counter() - begin, 3)
