"""[J5]: mean_draws; [J6] as far as it speaks of it."""

import unittest
from fractions import Fraction
from math import gcd
from random import Random
from time import perf_counter

from tests.samples import FORK, FULL_4, KITE, PAIR, ROUND_5, ROW, ROW_5, STAR, WIDE_FORK, mixed
from tests.walking import CLASS_40, CLASS_41, all_classes, great_webs, let_here, parted_by, some_parted, some_small_webs
from unevenroads.chances import chances
from unevenroads.errors import NotJoined, TooMany
from unevenroads.joinpapers import paper_holds
from unevenroads.meandraws import mean_draws
from unevenroads.renamed import renamed_standing, renamed_web
from unevenroads.shapes import path_web, ring_web
from unevenroads.wallrows import standing_at


class MeandrawsTest(unittest.TestCase):

    def setUp(self):
        self.short, self.row = path_web(3, 1), path_web(5, 1)

    def too_many(self, *arguments):
        with self.assertRaises(TooMany) as caught:
            mean_draws(*arguments)
        self.assertEqual(caught.exception.limit, 40)

    def not_joined(self, web, one, other):
        with self.assertRaises(NotJoined) as caught:
            mean_draws(web, one, other)
        self.assertIs(paper_holds(web, one, other, caught.exception.paper), True)

    def mean(self, web, one, other):
        """The mean as a fraction; what is told is looked at, too."""
        told = mean_draws(web, one, other)
        self.assertEqual([type(told)] + [type(item) for item in told], [tuple, int, int])
        self.assertTrue(told[1] > 0 and gcd(*told) == 1)
        return Fraction(*told)

    def test_examples(self):
        short, row = self.short, self.row
        self.assertEqual([mean_draws(short, (0, 1), (1, 1)), mean_draws(short, (1, 1), (1, 0)),
                          mean_draws(short, (0, 1), (1, 0)), mean_draws(short, (1, 0), (1, 0))],
                         [(4, 1), (8, 1), (12, 1), (0, 1)])
        self.assertEqual(mean_draws(row, (1, 0, 1, 0), (0, 1, 0, 1)), (80, 1))
        self.too_many(path_web(10, 1), (1,) + (0,) * 8, (0, 1) + (0,) * 7)

    def test_by_name(self):
        self.assertEqual(mean_draws(web=self.short, one=(0, 1), other=(1, 1)), (4, 1))

    def check_class(self, web, one_class, other):
        """By the equations: they have just one solution."""
        means = {one: self.mean(web, one, other) for one in one_class}
        share = Fraction(1, 2 * len(web[1]))
        self.assertEqual(means[other], 0)
        for one in one_class:
            if one != other:
                idle = 2 * len(web[1]) - len(let_here(web, one))
                behind = sum([means[end] for _, end in let_here(web, one)]) + idle * means[one]
                self.assertEqual(means[one], 1 + share * behind)

    def test_equations_of_small_webs(self):
        dice = Random(121)
        webs = [self.short, self.row, ROUND_5, FORK, WIDE_FORK, STAR, ROW, path_web(3, 2), ring_web(4, 1),
                path_web(7, 1)]
        fractional = 0
        for web in webs + some_small_webs()[::4]:
            for one_class in all_classes(web):
                if len(one_class) <= 40:
                    other = dice.choice(one_class)
                    self.check_class(web, one_class, other)
                    fractional += len([one for one in one_class if mean_draws(web, one, other)[1] > 1])
        self.assertGreater(fractional, 20)

    def test_just_40_standings_and_more(self):
        one, other = (1, 0, 0), (0, 0, 5)
        forty = [one_class for one_class in all_classes(CLASS_40) if one in one_class][0]
        self.assertEqual(len(forty), 40)
        self.check_class(CLASS_40, forty, other)
        self.assertEqual(mean_draws(CLASS_40, one, one), (0, 1))
        more = [one_class for one_class in all_classes(CLASS_41) if (1, 0) in one_class][0]
        self.assertEqual(len(more), 41)
        self.too_many(CLASS_41, (1, 0), (5, 6))
        self.too_many(CLASS_41, (1, 0), (1, 0))
        self.not_joined(CLASS_41, (1, 0), (0, 0))
        self.not_joined(CLASS_41, (0, 0), (1, 0))
        self.assertEqual(mean_draws(CLASS_41, (0, 0), (0, 0)), (0, 1))

    def test_standings_that_are_not_joined(self):
        self.not_joined(self.row, (1, 0, 0, 0), (1, 0, 1, 0))
        self.not_joined(STAR, (1, 0, 0, 0, 0, 0), (0, 0, 0, 1, 1, 1))
        self.not_joined(PAIR, (3,), (4,))
        self.not_joined(FULL_4, (0,) * 6, (1,) * 6)
        long_row = path_web(24, 1)
        self.not_joined(long_row, parted_by(long_row, range(12), 1), parted_by(long_row, range(10), 1))
        for web in great_webs():
            self.not_joined(web, (0,) * len(web[1]), (1,) + (0,) * (len(web[1]) - 1))

    def test_a_standing_and_itself(self):
        for web, standing in [(PAIR, (3,)), (self.row, (0, 0, 0, 0)), (ROW_5, (0, 1, 0, 1)),
                              (path_web(24, 9), (0,) * 23), (STAR, (0, 0, 0, 1, 1, 1))]:
            self.assertEqual(mean_draws(web, standing, standing), (0, 1))
        for web in great_webs() + [KITE[:2] + ((4, 4, 4, 1, 1),), path_web(24, 1)]:
            standing = (1,) + (0,) * (len(web[1]) - 1)
            self.too_many(web, standing, standing)

    def test_draws_till_the_web_stands_so_again(self):
        for web in (self.short, self.row, ROUND_5, FORK, STAR, path_web(3, 2), CLASS_40):
            for one_class in all_classes(web):
                if len(one_class) <= 40:
                    one = one_class[-1]
                    back = sum([Fraction(*chance) * self.mean(web, end, one) for end, chance in chances(web, one, 1)])
                    self.assertEqual(1 + back, len(one_class))

    def test_new_names(self):
        for web, one, other in [(self.row, (1, 0, 1, 0), (1, 1, 0, 1)), (STAR, (1, 0, 0, 1, 1, 1), (1, 0, 0, 0, 1, 1)),
                                (WIDE_FORK, (1, 1, 2), (0, 0, 1))]:
            for names in mixed(web[0], 3):
                named = renamed_web(web, names)[0]
                mine, yours = renamed_standing(web, names, one), renamed_standing(web, names, other)
                self.assertEqual(mean_draws(named, mine, yours), mean_draws(web, one, other))

    def test_no_call_takes_long(self):
        begin = perf_counter()
        for web, one, other in [(CLASS_40, (1, 0, 0), (0, 0, 5)), (path_web(9, 1), (1,) + (0,) * 7, (0,) * 7 + (1,))]:
            self.mean(web, one, other)
        web = some_parted(Random(7), 12)
        self.mean(web, standing_at(web, ("near",), 0), standing_at(web, ("near",), 22))
        web = ring_web(21, 1)
        self.too_many(web, (1, 0, 1) + (0,) * 18, (1, 0, 1) + (0,) * 18)
        self.assertLess(perf_counter() - begin, 4)
