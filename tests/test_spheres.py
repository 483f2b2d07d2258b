"""[I1], [I2]: spheres, farthest, least_way; [I5] as far as it speaks of them."""

import unittest
from random import Random
from time import perf_counter

from tests.samples import (FULL_4, KITE, MIXED_ROW, PAIR, ROUND_5, ROW, ROW_5, STAR, WIDE_FORK, every_standing, has,
                           mixed)
from tests.walking import (CLASS_2000, CLASS_2015, all_classes, distances, fault_along, great_webs, is_even_here,
                           long_rows, some_parted, some_small_webs, some_standing, with_bound)
from unevenroads.classes import uneven_classes
from unevenroads.errors import TooMany
from unevenroads.joining import class_of, joined
from unevenroads.renamed import renamed_standing, renamed_web
from unevenroads.shapes import path_web, ring_web
from unevenroads.spheres import farthest, least_way, spheres


class SpheresTest(unittest.TestCase):

    def setUp(self):
        self.three, self.wide = path_web(4, 1), path_web(3, 2)
        self.long_row, self.apart = path_web(16, 1), (1, 0, 1, 0, 1, 0, 1) + (0,) * 8

    def too_many(self, function, *arguments):
        with self.assertRaises(TooMany) as caught:
            function(*arguments)
        self.assertEqual(caught.exception.limit, 2000)

    def check_way(self, web, one, other, steps):
        way = least_way(web, one, other)
        self.assertEqual(fault_along(web, one, way), other)
        self.assertEqual(len(way), steps)

    def test_examples(self):
        three, wide = self.three, self.wide
        self.assertEqual(spheres(three, (1, 0, 0)), (1, 1, 2, 1, 1))
        self.assertEqual(farthest(three, (1, 0, 0)), (4, (0, 0, 1)))
        self.assertEqual(spheres(ring_web(3, 1), (1, 0, 0)), (1, 2, 2, 1))
        self.assertEqual(farthest(ring_web(3, 1), (1, 0, 0)), (3, (0, 1, 1)))
        self.assertEqual((spheres(wide, (1, 0)), farthest(wide, (1, 0))), ((1, 1, 3, 3), (3, (0, 2))))
        self.assertEqual(least_way(wide, (1, 0), (0, 2)), ((1, 1), (1, 1), (0, -1)))
        self.assertEqual((spheres(wide, (0, 0)), farthest(wide, (0, 0))), ((1,), (0, (0, 0))))
        self.assertEqual(least_way(three, (1, 0, 0), (0, 1, 0)), ((1, 1), (0, -1)))
        self.assertIsNone(least_way(three, (1, 0, 0), (1, 0, 1)))
        self.assertEqual(least_way(three, (1, 0, 1), (1, 0, 1)), ())
        self.assertEqual(least_way(self.long_row, self.apart, self.apart), ())
        self.assertIsNone(least_way(self.long_row, self.apart, (0,) * 15))
        self.too_many(farthest, self.long_row, self.apart)

    def test_by_name(self):
        self.assertEqual(spheres(web=self.three, standing=(1, 0, 0)), (1, 1, 2, 1, 1))
        self.assertEqual(farthest(web=self.three, standing=(1, 0, 0)), (4, (0, 0, 1)))
        self.assertEqual(least_way(web=self.three, one=(1, 0, 0), other=(1, 1, 0)), ((1, 1),))

    def test_all_deeds_of_small_webs(self):
        dice = Random(81)
        for web in some_small_webs():
            for one_class in all_classes(web):
                for one in dice.sample(one_class, min(4, len(one_class))):
                    steps = distances(web, one)
                    numbers = list(steps.values())
                    most = max(numbers)
                    self.assertEqual(spheres(web, one), tuple([numbers.count(k) for k in range(most + 1)]))
                    last = min([other for other in steps if steps[other] == most])
                    self.assertEqual(farthest(web, one), (most, last))
                    for other in dice.sample(one_class, min(12, len(one_class))):
                        self.check_way(web, one, other, steps[other])
                    for other in every_standing(web)[::7]:
                        if other not in steps:
                            self.assertIsNone(least_way(web, one, other))

    def test_even_standings(self):
        for web in (PAIR, ROW, ROW_5, ROUND_5, FULL_4, path_web(24, 9), ring_web(24, 1)):
            bare = (0,) * len(web[1])
            one_laid = (1,) + bare[1:]
            self.assertEqual((spheres(web, bare), farthest(web, bare)), ((1,), (0, bare)))
            self.assertEqual(least_way(web, bare, bare), ())
            self.assertIsNone(least_way(web, bare, one_laid))
            self.assertIsNone(least_way(web, one_laid, bare))
        self.assertEqual((spheres(PAIR, (7,)), farthest(PAIR, (7,)), least_way(PAIR, (7,), (6,))),
                         ((1,), (0, (7,)), None))

    def test_just_2000_and_more(self):
        one, other = (1, 0, 0, 0), (0, 0, 8, 0)
        steps = distances(CLASS_2000, one)
        self.assertEqual((len(steps), sum(spheres(CLASS_2000, one))), (2000, 2000))
        most = max(steps.values())
        self.assertEqual(farthest(CLASS_2000, one), (most, min([end for end in steps if steps[end] == most])))
        self.check_way(CLASS_2000, one, other, steps[other])
        for web in (CLASS_2015, CLASS_2000[:2] + ((5, 4, 8, 8),)):
            near, far = (1, 0, 0, 0), (0, 0, 1, 0)
            self.assertTrue(joined(web, near, far))
            for function in (spheres, farthest):
                self.too_many(function, web, near)
                self.assertIsNotNone(function(web, (0, 0, 0, 0)))
            self.too_many(least_way, web, near, far)
            self.too_many(least_way, web, near, (2, 0, 0, 0))
            self.assertEqual(least_way(web, near, near), ())
            self.assertIsNone(least_way(web, near, (0, 0, 0, 0)))
            self.assertIsNone(least_way(web, (0, 0, 0, 0), near))

    def test_classes_of_rows(self):
        for web in long_rows()[::5]:
            for sort, size in uneven_classes(web):
                standing = self.laid_at(web, sort[1])
                self.assertEqual(class_of(web, standing), sort)
                if size > 2000:
                    self.too_many(spheres, web, standing)
                    self.too_many(farthest, web, standing)
                elif size < 300:
                    self.assertEqual(sum(spheres(web, standing)), size)

    def laid_at(self, web, number):
        """A standing with so many walls: half as many of the first row roads laid, no two of them side by side."""
        row = [has(web).index(min(has(web)))]
        while len(row) < web[0]:
            place = row[-1]
            row.append([x + y - place for x, y in web[1] if place in (x, y) and x + y - place not in row][0])
        pairs = [tuple(sorted(row[2 * k:2 * k + 2])) for k in range(number // 2)]
        return tuple([1 if ends in pairs else 0 for ends in web[1]])

    def test_what_holds(self):
        dice = Random(82)
        for web in [ROW, MIXED_ROW, KITE, STAR, WIDE_FORK, FULL_4, ROUND_5, path_web(4, 2), with_bound(STAR, 1, 2)]:
            classes = [one_class for one_class in all_classes(web) if len(one_class) > 2]
            for one_class in classes:
                sizes = {size for sort, size in uneven_classes(web) if sort == class_of(web, one_class[0])}
                one, other, third = dice.sample(one_class, 3)
                told = spheres(web, one)
                self.assertEqual((told[0], {sum(told)}), (1, sizes))
                self.assertTrue(min(told) > 0)
                self.assertEqual(farthest(web, one)[0], len(told) - 1)
                way = least_way(web, one, other)
                self.assertEqual(len(least_way(web, other, one)), len(way))
                self.assertLessEqual(len(way), len(least_way(web, one, third)) + len(least_way(web, third, other)))
                for k in range(len(way)):
                    self.assertEqual(len(least_way(web, one, fault_along(web, one, way[:k]))), k)
                names = mixed(web[0], 3)[2]
                named = renamed_web(web, names)[0]
                mine, yours = renamed_standing(web, names, one), renamed_standing(web, names, other)
                self.assertEqual(spheres(named, mine), told)
                self.assertEqual(len(least_way(named, mine, yours)), len(way))

    def test_near_classes(self):
        dice = Random(83)
        for spots in (4, 5, 8, 12):
            web = some_parted(dice, spots)
            near = [size for sort, size in uneven_classes(web) if sort == ("near",)]
            matched, used = [0] * len(web[1]), set()
            # From the outer places inwards each place with one road left is paired, but for the last one.
            left = dict(enumerate(web[1]))
            while left:
                for place in range(web[0]):
                    own = [road for road, ends in left.items() if place in ends]
                    if len(own) == 1:
                        matched[own[0]] = 1
                        used.update(web[1][own[0]])
                        left = {road: ends for road, ends in left.items() if not used.intersection(ends)}
            self.assertEqual(class_of(web, tuple(matched)), ("near",))
            self.assertEqual([sum(spheres(web, tuple(matched)))], near)

    def test_no_call_takes_long(self):
        dice = Random(84)
        for web in great_webs() + long_rows()[-4:] + [CLASS_2000, path_web(12, 1)]:
            for _ in range(3):
                one, other = some_standing(web, dice), some_standing(web, dice)
                begin = perf_counter()
                for function, arguments in ((spheres, (one,)), (farthest, (one,)), (least_way, (one, other))):
                    try:
                        function(web, *arguments)
                    except TooMany:
                        self.assertFalse(is_even_here(web, one))
                self.assertLess(perf_counter() - begin, 4)
