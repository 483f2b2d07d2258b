"""[J1] to [J3]: chances, long_run; [J6] as far as it speaks of them."""

import unittest
from fractions import Fraction
from random import Random
from time import perf_counter

from tests.samples import (FORK, FULL_4, KITE, PAIR, ROUND_5, ROW, ROW_5, STAR, WIDE_FORK, every_standing, mixed,
                           web_of)
from tests.walking import (CLASS_2000, CLASS_2015, all_classes, great_webs, is_even_here, let_here, long_rows,
                           some_parted, some_small_webs, some_standing)
from unevenroads.chances import chances, long_run
from unevenroads.errors import TooMany
from unevenroads.renamed import renamed_standing, renamed_web
from unevenroads.shapes import full_web, path_web, ring_web

# Behind the sixth draw there are just 2000 standings, behind the seventh one more of them.
SIXTH_2000 = ((5, ((0, 2), (0, 3), (0, 4), (1, 2), (1, 3), (1, 4)), (3, 4, 3, 4, 4, 2)), (2, 1, 0, 2, 1, 2))
# Behind the twelfth draw there are 2001, behind the ones ahead fewer; behind the eleventh 2001, behind the tenth fewer.
TWELFTH_2001 = (web_of(10, [(0, 2), (0, 6), (0, 7), (1, 5), (2, 4), (3, 7), (4, 7), (4, 9), (5, 7), (6, 8), (8, 9)]),
                (1,) + (0,) * 10)
ELEVENTH_2001 = ((4, ((0, 1), (0, 2), (0, 3), (1, 2)), (8, 8, 9, 5)), (0, 3, 8, 0))
# Behind the eleventh draw there are 2000, behind the twelfth 2037.
ELEVENTH_2000 = (web_of(12, [(0, 5), (1, 11), (2, 5), (2, 8), (2, 9), (2, 10), (2, 11), (3, 11), (4, 6), (4, 8),
                             (7, 11)]),
                 (0, 1, 1, 0, 1, 0, 1, 0, 0, 0, 1))


def behind_draw(web, told):
    """The chances behind one draw more: each pair of a road and what is done is drawn."""
    share = Fraction(1, 2 * len(web[1]))
    behind = {}
    for standing, chance in told.items():
        let = dict(let_here(web, standing))
        for road in range(len(web[1])):
            for by in (1, -1):
                end = let.get((road, by), standing)
                behind[end] = behind.get(end, 0) + chance * share
    return behind


def in_pairs(told):
    """Fractions as pairs, in the order of their standings."""
    return tuple([(end, (told[end].numerator, told[end].denominator)) for end in sorted(told)])


class ChancesTest(unittest.TestCase):

    def setUp(self):
        self.short = path_web(3, 1)

    def too_many(self, function, *arguments):
        with self.assertRaises(TooMany) as caught:
            function(*arguments)
        self.assertEqual(caught.exception.limit, 2000)

    def test_examples(self):
        short = self.short
        self.assertEqual(chances(short, (0, 1), 1), (((0, 1), (3, 4)), ((1, 1), (1, 4))))
        self.assertEqual(chances(short, (0, 1), 0), (((0, 1), (1, 1)),))
        self.assertEqual(chances(short, (0, 0), 12), (((0, 0), (1, 1)),))
        self.assertEqual(chances(short, (1, 1), 1), (((0, 1), (1, 4)), ((1, 0), (1, 4)), ((1, 1), (1, 2))))
        self.assertEqual(chances(short, (0, 1), 2), (((0, 1), (5, 8)), ((1, 0), (1, 16)), ((1, 1), (5, 16))))

    def test_examples_of_long_runs(self):
        short, row = self.short, path_web(5, 1)
        self.assertEqual(long_run(short, (0, 1)), (1, 3))
        self.assertEqual(long_run(short, (0, 0)), (1, 1))
        self.assertEqual(long_run(row, (1, 0, 0, 0)), (1, 10))
        self.assertEqual(long_run(row, (1, 0, 1, 0)), (1, 5))

    def test_by_name(self):
        self.assertEqual(chances(web=self.short, standing=(0, 0), draws=1), (((0, 0), (1, 1)),))
        self.assertEqual(long_run(web=self.short, standing=(0, 1)), (1, 3))

    def test_draw_by_draw(self):
        dice = Random(101)
        webs = [PAIR, self.short, ROW, ROW_5, ROUND_5, FORK, WIDE_FORK, FULL_4, path_web(3, 2), ring_web(3, 1)]
        for web in webs + some_small_webs()[::9]:
            for standing in dice.sample(every_standing(web), 2):
                told = {standing: Fraction(1)}
                for draws in range(13):
                    if len(told) > 60:
                        break
                    self.assertEqual(chances(web, standing, draws), in_pairs(told), (web, standing, draws))
                    self.assertEqual(sum([Fraction(*chance) for _, chance in chances(web, standing, draws)]), 1)
                    told = behind_draw(web, told)
        for web, standing in [(KITE, (1, 0, 0, 0, 0)), (STAR, (1, 0, 0, 0, 0, 0)), (WIDE_FORK, (1, 1, 2))]:
            told = {standing: Fraction(1)}
            for _ in range(12):
                told = behind_draw(web, told)
            self.assertEqual(chances(web, standing, 12), in_pairs(told))

    def test_a_standing_that_can_not_stay(self):
        web = path_web(3, 2)
        self.assertEqual(chances(web, (1, 1), 1), tuple([(end, (1, 4)) for end in ((0, 1), (1, 0), (1, 2), (2, 1))]))

    def test_even_standings(self):
        for web in (PAIR, ROW, ROUND_5, FULL_4, path_web(24, 9), ring_web(24, 1), full_web(9, 9)):
            bare = (0,) * len(web[1])
            for draws in (0, 1, 5, 12):
                self.assertEqual(chances(web, bare, draws), ((bare, (1, 1)),))
            self.assertEqual(long_run(web, bare), (1, 1))
        self.assertEqual((chances(PAIR, (4,), 12), long_run(PAIR, (4,))), ((((4,), (1, 1)),), (1, 1)))
        self.assertEqual(long_run(full_web(9, 1), (1,) * 36), (1, 1))

    def test_there_and_back(self):
        dice = Random(102)
        for web in (ROW, ROUND_5, KITE, STAR, WIDE_FORK):
            one = some_standing(web, dice)
            for draws in (1, 4, 7):
                told = dict(chances(web, one, draws))
                for other in dice.sample(sorted(told), min(5, len(told))):
                    self.assertEqual(dict(chances(web, other, draws))[one], told[other])

    def test_new_names(self):
        for web, one in [(ROW, (1, 0, 2)), (STAR, (1, 0, 1, 0, 0, 0)), (FORK, (1, 1, 0, 0))]:
            for names in mixed(web[0], 3):
                told = [(renamed_standing(web, names, end), chance) for end, chance in chances(web, one, 4)]
                named = renamed_web(web, names)[0]
                self.assertEqual(chances(named, renamed_standing(web, names, one), 4), tuple(sorted(told)))

    def test_just_2000_standings_and_more(self):
        self.assertEqual(len(chances(*SIXTH_2000, 6)), 2000)
        self.too_many(chances, *SIXTH_2000, 7)
        self.too_many(chances, *SIXTH_2000, 12)
        self.assertTrue(1500 < len(chances(*TWELFTH_2001, 11)) < 2000)
        self.too_many(chances, *TWELFTH_2001, 12)
        self.too_many(chances, *ELEVENTH_2001, 11)
        self.assertTrue(1500 < len(chances(*ELEVENTH_2001, 10)) < 2000)
        found = chances(*ELEVENTH_2000, 11)
        self.assertEqual((len(found), sum([Fraction(*chance) for _, chance in found])), (2000, 1))
        self.assertEqual([end for end, _ in found], sorted([end for end, _ in found]))
        self.too_many(chances, *ELEVENTH_2000, 12)

    def test_long_runs_of_small_webs(self):
        for web in some_small_webs():
            for one_class in all_classes(web):
                for standing in one_class[:3]:
                    self.assertEqual(long_run(web, standing), (1, len(one_class)))

    def test_long_runs_of_great_webs(self):
        self.assertEqual(long_run(CLASS_2000, (1, 0, 0, 0)), (1, 2000))
        self.assertEqual(long_run(CLASS_2015, (1, 0, 0, 0)), (1, 2015))
        self.assertEqual(long_run(path_web(24, 1), (1, 0, 1) + (0,) * 20), (1, 10626))
        self.assertEqual(long_run(path_web(24, 9), (9,) + (0,) * 22), (1, 10 ** 23 - 10))
        self.assertEqual(long_run(some_parted(Random(1), 12), (1,) * 22), (1, 2 ** 22 - 24))
        for web in great_webs():
            if len(web[1]) > web[0]:
                self.too_many(long_run, web, (1,) + (0,) * (len(web[1]) - 1))

    def test_what_all_draws_come_near_to(self):
        for web, standing in [(self.short, (0, 1)), (ring_web(3, 1), (1, 0, 0)), (path_web(4, 1), (1, 0, 0))]:
            _, size = long_run(web, standing)
            told = {standing: Fraction(1)}
            for _ in range(150):
                told = behind_draw(web, told)
            self.assertEqual(len(told), size)
            for chance in told.values():
                self.assertLess(abs(chance - Fraction(1, size)), Fraction(1, 100))

    def test_no_call_takes_long(self):
        dice = Random(103)
        for web in great_webs() + long_rows()[-2:] + [CLASS_2000, path_web(12, 1)]:
            for standing in (some_standing(web, dice), (1,) + (0,) * (len(web[1]) - 1)):
                begin = perf_counter()
                try:
                    self.assertLessEqual(len(chances(web, standing, 12)), 2000)
                except TooMany:
                    self.assertFalse(is_even_here(web, standing))
                self.assertLess(perf_counter() - begin, 4)
