"""[F1], [F2]: uneven_classes, class_count; [F4] as far as it speaks of them."""

import unittest
from math import comb, prod
from random import Random
from time import perf_counter

from tests.samples import (FORK, FULL_4, KITE, PAIR, ROUND_5, ROW_5, SMALL_WEBS, STAR, every_standing, every_tree,
                           every_web, mixed, web_of)
from tests.test_evens import BOTH_CIRCLES, JUST_TOO_MANY, TAILED
from tests.walking import all_classes, bearing, great_webs, long_rows, small_rows, some_parted, with_bound
from unevenroads.classes import class_count, uneven_classes
from unevenroads.errors import TooMany
from unevenroads.evens import even_count
from unevenroads.joining import class_of
from unevenroads.kinds import kind_of
from unevenroads.parted import parted_web
from unevenroads.renamed import renamed_web
from unevenroads.shapes import board_web, full_web, path_web, ring_web


class ClassesTest(unittest.TestCase):

    def test_examples(self):
        star = parted_web(4, ((0, 1), (0, 2), (0, 3)))
        self.assertEqual(uneven_classes(path_web(5, 1)), ((("walls", 2), 10), (("walls", 4), 5)))
        self.assertEqual(uneven_classes(ring_web(5, 1)), ((("walls", 2), 20), (("walls", 4), 10)))
        self.assertEqual(uneven_classes(star), ((("near",), 7), (("rest",), 56)))
        self.assertEqual(uneven_classes(path_web(4, 1)), ((("rest",), 6),))
        self.assertEqual(uneven_classes(path_web(3, 2)), ((("rest",), 8),))
        self.assertEqual(uneven_classes(path_web(2, 3)), ())
        self.assertEqual(uneven_classes(path_web(6, 1)), ((("walls", 2), 15), (("walls", 4), 15)))
        self.assertEqual([class_count(web) for web in (path_web(5, 1), ring_web(5, 1), star, path_web(2, 3))],
                         [3, 4, 3, 4])
        self.too_many(full_web(7, 1))

    def test_by_name(self):
        self.assertEqual(uneven_classes(web=path_web(4, 1)), ((("rest",), 6),))
        self.assertEqual(class_count(web=path_web(4, 1)), 3)

    def too_many(self, web):
        for function in (uneven_classes, class_count):
            with self.assertRaises(TooMany) as caught:
                function(web)
            self.assertEqual(caught.exception.limit, 2000)

    def test_all_deeds_of_small_webs(self):
        webs = SMALL_WEBS + small_rows() + [TAILED] + [web for n in (2, 3, 4) for web in every_web(n)]
        webs.extend(every_web(5)[::10] + [bearing(web, Random(at), 3) for at, web in enumerate(every_web(4))])
        webs.extend([web_of(n, roads) for n, step in ((5, 5), (6, 60), (7, 600)) for roads in every_tree(n)[::step]])
        webs.extend([path_web(5, 2), ring_web(5, 2), path_web(4, 5), board_web(2, 3, 1), board_web(1, 4, 2)])
        for web in [web for web in webs if prod([most + 1 for most in web[2]]) <= 2000]:
            found = all_classes(web)
            uneven = [(class_of(web, one_class[0]), len(one_class)) for one_class in found if len(one_class) > 1]
            self.assertEqual(uneven_classes(web), tuple(sorted(uneven)), web)
            self.assertEqual(class_count(web), len(found))

    def test_sizes_together_make_all_standings(self):
        dice = Random(51)
        webs = long_rows() + [some_parted(dice, spots) for spots in (4, 6, 9, 12)] + [FULL_4, KITE, FORK, PAIR, STAR]
        webs.extend([path_web(24, 9), ring_web(24, 9), board_web(1, 23, 9), path_web(3, 9)])
        webs.extend([with_bound(some_parted(dice, 12), 3, 2),
                     web_of(24, [(place // 2, place) for place in range(1, 24)])])
        for web in webs:
            sizes = [size for _, size in uneven_classes(web)]
            self.assertEqual(sum(sizes) + even_count(web), prod([most + 1 for most in web[2]]))
            self.assertEqual(class_count(web), len(sizes) + even_count(web))
            self.assertTrue(min(sizes + [1]) > 0)

    def test_rows_of_any_length(self):
        for n in range(5, 25):
            for web, times in [(path_web(n, 1), 1), (ring_web(n, 1), 2)]:
                told = [(("walls", number), times * comb(n, number)) for number in range(2, n, 2)]
                self.assertEqual(uneven_classes(web), tuple(told))
            self.assertEqual(class_count(path_web(n, 1)), (n - 1) // 2 + (2 if n % 2 == 0 else 1))
            self.assertEqual(class_count(ring_web(n, 1)), (n - 1) // 2 + (4 if n % 2 == 0 else 2))

    def test_trees_with_an_elder_tree(self):
        dice = Random(52)
        for spots in range(4, 13):
            told = uneven_classes(some_parted(dice, spots))
            self.assertEqual([sort for sort, _ in told], [("near",), ("rest",)])
            self.assertEqual(told[0][1], 2 * spots - 1)
            self.assertEqual(told[1][1], 2 ** (2 * spots - 2) - 1 - (2 * spots - 1))
        self.assertEqual(uneven_classes(with_bound(STAR, 0, 2)), ((("rest",), 3 * 2 ** 5 - 1),))

    def test_pairs(self):
        for bears in range(1, 10):
            web = (2, ((0, 1),), (bears,))
            self.assertEqual(uneven_classes(web), ())
            self.assertEqual(class_count(web), bears + 1)

    def test_webs_of_just_2000_standings_and_of_more(self):
        self.assertEqual(uneven_classes(TAILED)[0][1], 2000 - even_count(TAILED))
        self.assertEqual(len(every_standing(TAILED)), 2000)
        for web in JUST_TOO_MANY + [BOTH_CIRCLES] + [web for web in great_webs() if len(web[1]) > web[0]]:
            self.too_many(web)

    def test_trees_and_rings_have_no_bound(self):
        for web in (path_web(24, 1), ring_web(24, 1), path_web(24, 9), ring_web(24, 9), some_parted(Random(1), 12)):
            begin = perf_counter()
            uneven_classes(web), class_count(web)
            self.assertLess(perf_counter() - begin, 3)

    def test_new_names(self):
        for web in SMALL_WEBS + [ROW_5, ROUND_5]:
            for names in mixed(web[0], 3):
                other = renamed_web(web, names)[0]
                self.assertEqual(kind_of(other), kind_of(web))
                self.assertEqual(uneven_classes(other), uneven_classes(web))
                self.assertEqual(class_count(other), class_count(web))
