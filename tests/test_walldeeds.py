"""[I3], [I4]: wall_deeds, wall_way; [I5] as far as it speaks of them."""

import unittest
from random import Random
from time import perf_counter

from tests.samples import (FORK, FULL_4, KITE, MIXED_ROW, PAIR, ROUND_4, ROUND_5, ROW, ROW_5, STAR,
                           every_standing, mixed)
from tests.walking import (all_classes, distances, fault_along, great_webs, long_rows, parted_by, place_sums,
                           small_rows, with_bound)
from unevenroads.errors import Unfit
from unevenroads.kinds import row_of
from unevenroads.renamed import renamed_standing, renamed_web
from unevenroads.shapes import path_web, ring_web
from unevenroads.spheres import least_way
from unevenroads.walldeeds import wall_deeds, wall_way
from unevenroads.walls import walls_of


def row_load(web, standing, i):
    """The load of the row road i."""
    row = row_of(web)
    return standing[web[1].index(tuple(sorted((row[i], row[(i + 1) % web[0]]))))]


def steps_by_walls(web, one, other):
    """The steps in the words of [I4], for two standings with as many walls."""
    p, q, n = walls_of(web, one), walls_of(web, other), web[0]
    m = len(p)
    if len(web[1]) < n or m == 0:
        return sum([abs(a - b) for a, b in zip(p, q)])
    odd = 0 if row_load(web, one, p[0]) == row_load(web, other, q[0]) else 1
    sums = []
    for s in range(-4 * m + odd, 4 * m + odd, 2):
        sums.append(sum([abs(p[i] - (q[(i + s) % m] + n * ((i + s) // m))) for i in range(m)]))
    return min(sums)


class WalldeedsTest(unittest.TestCase):

    def setUp(self):
        self.three, self.five, self.long_row = path_web(4, 1), ring_web(5, 1), path_web(16, 1)

    def check(self, web, one, other, steps):
        """The steps, None if there is no way, and a way with so many deeds."""
        self.assertEqual(wall_deeds(web, one, other), steps, (web, one, other))
        way = wall_way(web, one, other)
        if steps is None:
            self.assertIsNone(way)
        else:
            self.assertEqual(fault_along(web, one, way), other)
            self.assertEqual(len(way), steps)

    def test_examples(self):
        three, five, long_row = self.three, self.five, self.long_row
        self.assertEqual(wall_deeds(three, (1, 0, 0), (0, 0, 1)), 4)
        self.assertIsNone(wall_deeds(three, (1, 0, 1), (0, 0, 0)))
        self.assertEqual(wall_deeds(three, (1, 0, 1), (1, 0, 1)), 0)
        self.assertEqual(wall_deeds(five, (1, 0, 0, 0, 0), (0, 0, 0, 0, 1)), 4)
        self.assertEqual(wall_deeds(five, (1, 0, 0, 0, 0), (0, 1, 1, 1, 1)), 5)
        self.assertEqual(wall_way(three, (1, 0, 0), (0, 1, 0)), ((1, 1), (0, -1)))
        self.assertIsNone(wall_way(three, (0, 1, 0), (0, 0, 0)))
        self.assertEqual(wall_way(three, (0, 0, 0), (0, 0, 0)), ())
        apart, shifted = (1, 0, 1, 0, 1, 0, 1) + (0,) * 8, (0,) * 8 + (1, 0, 1, 0, 1, 0, 1)
        self.assertEqual(wall_deeds(long_row, apart, shifted), 64)
        self.assertEqual(len(wall_way(long_row, apart, shifted)), 64)
        self.assertRaises(Unfit, wall_deeds, path_web(3, 2), (1, 0), (0, 1))

    def test_by_name(self):
        self.assertEqual(wall_deeds(web=self.three, one=(1, 0, 0), other=(0, 0, 1)), 4)
        self.assertEqual(wall_way(web=self.three, one=(1, 0, 0), other=(1, 1, 0)), ((1, 1),))

    def test_all_deeds_of_small_rows(self):
        webs = [path_web(3, 1), path_web(4, 1), ring_web(3, 1), ring_web(4, 1), MIXED_ROW, ROW_5, ROUND_5]
        webs.extend([(4, ((0, 1), (0, 2), (1, 3), (2, 3)), (1,) * 4), (4, ((0, 2), (0, 3), (1, 2)), (1,) * 3)])
        for web in webs + small_rows()[6:18:2]:
            standings = every_standing(web)
            for one in standings[::1 if len(standings) < 70 else 11]:
                steps = distances(web, one)
                for other in standings:
                    self.check(web, one, other, steps.get(other))

    def test_formula_and_ways_of_long_rows(self):
        dice = Random(91)
        for web in long_rows():
            for number in range(2, web[0], 2):
                for _ in range(3):
                    one, other = [parted_by(web, dice.sample(range(web[0]), number), dice.choice((0, 1)))
                                  for _ in range(2)]
                    self.check(web, one, other, steps_by_walls(web, one, other))
                    self.check(web, one, one, 0)
                further = parted_by(web, range(number - 2), 0)
                self.check(web, one, further, None)
                self.check(web, further, one, None)

    def test_rings_around_either_way(self):
        for n in (5, 8, 13, 24):
            web = ring_web(n, 1)
            for first in (0, 1):
                one = parted_by(web, (0, 1), first)
                for place in range(n):
                    for load in (0, 1):
                        other = parted_by(web, (place, (place + 1) % n), load)
                        self.check(web, one, other, steps_by_walls(web, one, other))
            # Two walls at the beginning of the row go to its end: around the ring ahead of the first place if the road
            # between them can stay laid; otherwise one of them goes over the whole row.
            laid = parted_by(web, (0, 1), 1)
            self.check(web, laid, parted_by(web, (n - 2, n - 1), 0), 4)
            self.check(web, laid, parted_by(web, (n - 2, n - 1), 1), n - 2)
            self.check(web, laid, self.contrary(laid), n)
            # With one or two places that are no walls all roads can still be changed.
            full = parted_by(web, range(n - 2 + n % 2), 1)
            for other in (self.contrary(full), parted_by(web, range(2 - n % 2, n), 0)):
                self.check(web, full, other, steps_by_walls(web, full, other))

    def contrary(self, standing):
        """The standing in which the bare roads are laid, and the laid ones bare."""
        return tuple([1 - load for load in standing])

    def test_even_standings(self):
        for web in (path_web(3, 1), path_web(4, 1), ring_web(3, 1), ring_web(4, 1), path_web(24, 1), ring_web(24, 1)):
            bare, one_laid = (0,) * len(web[1]), (1,) + (0,) * (len(web[1]) - 1)
            self.check(web, bare, bare, 0)
            self.check(web, bare, one_laid, None)
            self.check(web, one_laid, bare, None)
            every_second = parted_by(web, range(web[0]), 1)
            if web[0] % 2 == 0:
                self.assertEqual(set(place_sums(web, every_second)), {1})
                self.check(web, every_second, every_second, 0)
                self.check(web, every_second, bare, None)
                self.check(web, one_laid, every_second, None)
        for web in (ring_web(3, 1), ring_web(4, 1), ring_web(23, 1), ring_web(24, 1)):
            laid = (1,) * len(web[1])
            self.check(web, laid, laid, 0)
            self.check(web, laid, (0,) * len(web[1]), None)

    def test_webs_that_are_no_such_rows(self):
        webs = [PAIR, ROW, ROUND_4, STAR, FORK, FULL_4, KITE, (2, ((0, 1),), (1,)), with_bound(ROW_5, 2, 2)]
        for web in webs + great_webs():
            bare, one_laid = (0,) * len(web[1]), (1,) + (0,) * (len(web[1]) - 1)
            for other in (bare, one_laid):
                self.assertRaises(Unfit, wall_deeds, web, bare, other)
                self.assertRaises(Unfit, wall_way, web, bare, other)

    def test_as_long_as_least_ways(self):
        dice = Random(92)
        for web in [path_web(9, 1), ring_web(8, 1), path_web(12, 1), ring_web(10, 1)]:
            for number in (2, 4, 6):
                for _ in range(4):
                    one, other = [parted_by(web, dice.sample(range(web[0]), number), dice.choice((0, 1)))
                                  for _ in range(2)]
                    steps = len(least_way(web, one, other))
                    self.check(web, one, other, steps)
                    self.check(web, other, one, steps)
                    names = mixed(web[0], 2)[1]
                    named = renamed_web(web, names)[0]
                    self.check(named, renamed_standing(web, names, one), renamed_standing(web, names, other), steps)

    def test_steps_of_classes(self):
        for web in (path_web(6, 1), ring_web(6, 1)):
            for one_class in [one_class for one_class in all_classes(web) if len(one_class) > 2]:
                for one in one_class[::5]:
                    for other in one_class[::3]:
                        steps = wall_deeds(web, one, other)
                        self.assertEqual(wall_deeds(web, other, one), steps)
                        for third in one_class[::4]:
                            over = wall_deeds(web, one, third) + wall_deeds(web, third, other)
                            self.assertLessEqual(steps, over)

    def test_no_call_takes_long(self):
        for web in (path_web(24, 1), ring_web(24, 1)):
            for number in range(2, 24, 2):
                one, other = parted_by(web, range(number), 1), parted_by(web, range(24 - number, 24), 0)
                begin = perf_counter()
                self.check(web, one, other, steps_by_walls(web, one, other))
                self.assertLess(perf_counter() - begin, 2)
