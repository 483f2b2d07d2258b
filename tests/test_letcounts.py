"""[J4]: let_total, mean_let; [J6] as far as it speaks of them."""

import unittest
from fractions import Fraction
from math import comb, gcd
from random import Random
from time import perf_counter

from tests.samples import FORK, FULL_4, GREAT, KITE, MIXED_ROW, ODD_VALUES, PAIR, ROW, STAR, is_parted
from tests.walking import all_classes, great_webs, let_here, long_rows, small_rows, some_parted, with_bound
from unevenroads.chances import long_run
from unevenroads.classes import uneven_classes
from unevenroads.errors import Unfit
from unevenroads.joining import class_of
from unevenroads.letcounts import let_total, mean_let
from unevenroads.parted import parted_web
from unevenroads.shapes import full_web, path_web, ring_web


class LetcountsTest(unittest.TestCase):

    def setUp(self):
        self.row, self.ring = path_web(5, 1), ring_web(5, 1)
        self.star = parted_web(4, ((0, 1), (0, 2), (0, 3)))

    def unfit(self, web, sort):
        self.assertRaises(Unfit, let_total, web, sort)
        self.assertRaises(Unfit, mean_let, web, sort)

    def test_examples(self):
        row, ring, star = self.row, self.ring, self.star
        self.assertEqual([let_total(row, ("walls", 2)), let_total(row, ("walls", 4)), let_total(ring, ("walls", 2)),
                          let_total(star, ("near",))], [24, 8, 60, 12])
        self.assertEqual([mean_let(row, ("walls", 2)), mean_let(row, ("walls", 4)), mean_let(ring, ("walls", 2)),
                          mean_let(star, ("near",))], [(12, 5), (8, 5), (3, 1), (12, 7)])
        self.unfit(row, ("walls", 3))
        self.unfit(star, ("rest",))

    def test_by_name(self):
        self.assertEqual(let_total(web=self.row, sort=("walls", 2)), 24)
        self.assertEqual(mean_let(web=self.row, sort=("walls", 2)), (12, 5))

    def test_all_deeds_of_small_webs(self):
        dice = Random(111)
        for web in small_rows() + [MIXED_ROW, STAR, some_parted(dice, 4), some_parted(dice, 5)]:
            for one_class in all_classes(web):
                sort = class_of(web, one_class[0])
                if sort[0] in ("even", "rest"):
                    self.unfit(web, sort)
                    continue
                total = sum([len(let_here(web, standing)) for standing in one_class])
                mean = Fraction(total, len(one_class))
                self.assertEqual(let_total(web, sort), total)
                self.assertEqual(mean_let(web, sort), (mean.numerator, mean.denominator))

    def test_rows_of_any_length(self):
        for web in long_rows():
            n = web[0]
            for k in range(2, n, 2):
                if len(web[1]) == n:
                    total, size = 4 * n * comb(n - 2, k - 1), 2 * comb(n, k)
                else:
                    total, size = 2 * (n - 1) * comb(n - 2, k - 1), comb(n, k)
                self.assertEqual(let_total(web, ("walls", k)), total)
                above, below = mean_let(web, ("walls", k))
                self.assertEqual((above * size, gcd(above, below)), (below * total, 1))

    def test_trees_with_an_elder_tree(self):
        dice = Random(112)
        for spots in range(4, 13):
            web = some_parted(dice, spots)
            self.assertTrue(is_parted(web))
            self.assertEqual(let_total(web, ("near",)), 4 * (spots - 1))
            mean = Fraction(4 * (spots - 1), 2 * spots - 1)
            self.assertEqual(mean_let(web, ("near",)), (mean.numerator, mean.denominator))

    def test_sorts_that_are_none(self):
        webs = [(self.row, [("walls", 2), ("walls", 4)]), (self.ring, [("walls", 2), ("walls", 4)]),
                (self.star, [("near",)]), (path_web(6, 1), [("walls", 2), ("walls", 4)]), (path_web(4, 1), []),
                (path_web(3, 1), []), (ring_web(4, 1), []), (PAIR, []), (ROW, []), (FORK, []), (FULL_4, []), (KITE, []),
                (with_bound(self.row, 0, 2), []), (with_bound(self.star, 5, 2), [])]
        sorts = [("even",), ("rest",), ("near",), ["near"], ("near", 0), "near", ("walls",), ("walls", 2, 2),
                 ["walls", 2], ("Walls", 2), (("walls",), 2), ("walls", [2]), ("walls", (2,)), ("walls", "2"),
                 ("walls", None), ("walls", True), ("walls", False), (True,), (1,), ("walls", GREAT), (2, "walls")]
        sorts.extend([("walls", number) for number in range(-3, 26)] + ODD_VALUES + [("walls", v) for v in ODD_VALUES])
        for web, right in webs:
            for sort in sorts:
                if sort in right and isinstance(sort, tuple):
                    self.assertGreater(let_total(web, sort), 0)
                    self.assertEqual(len(mean_let(web, sort)), 2)
                else:
                    self.unfit(web, sort)

    def test_too_many_is_never_raised(self):
        begin = perf_counter()
        for web in great_webs() + [full_web(9, 1)]:
            for sort in [("walls", 2), ("near",), ("rest",), ("even",), None]:
                self.unfit(web, sort)
        for web in long_rows()[-2:]:
            self.assertGreater(let_total(web, ("walls", 12)), 10 ** 6)
        self.assertLess(perf_counter() - begin, 4)

    def test_the_share_of_draws_that_do_something(self):
        for web in (self.row, self.ring, self.star, path_web(7, 1)):
            for one_class in all_classes(web):
                sort = class_of(web, one_class[0])
                if sort not in [own for own, _ in uneven_classes(web) if own != ("rest",)]:
                    continue
                _, size = long_run(web, one_class[0])
                share = sum([Fraction(len(let_here(web, one)), 2 * len(web[1]) * size) for one in one_class])
                self.assertEqual(Fraction(*mean_let(web, sort)) / (2 * len(web[1])), share)
