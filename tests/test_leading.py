"""[D5]: base_of, led_to_base; [D7] as far as it speaks of them."""

import unittest
from random import Random
from time import perf_counter

from tests.samples import (FORK, PAIR, ROUND_5, ROW_5, SMALL_WEBS, STAR, every_standing, every_tree, every_web, web_of)
from tests.walking import (all_classes, bearing, fault_along, great_webs, is_even_here, long_rows, place_sums,
                           small_rows, some_pairing, some_parted, some_standing, some_web, with_bound)
from unevenroads.joining import class_of
from unevenroads.kinds import row_of
from unevenroads.leading import base_of, led_to_base
from unevenroads.parted import elder_tree
from unevenroads.shapes import board_web, full_web, path_web, ring_web
from unevenroads.walls import is_near, walls_of
from unevenroads.ways import end_of

WIDE = with_bound(ROW_5, 3, 2)


class LeadingTest(unittest.TestCase):

    def check(self, web, standing):
        """Whether the way leads to the base; returns the base."""
        base = base_of(web, standing)
        way = led_to_base(web, standing)
        self.assertEqual(fault_along(web, standing, way), base, (web, standing, way))
        self.assertEqual(base_of(web, base), base)
        self.assertEqual(fault_along(web, base, led_to_base(web, base)), base)
        return base

    def test_examples(self):
        self.assertEqual(base_of(ROW_5, (0, 1, 0, 1)), (1, 0, 1, 0))
        self.assertEqual(base_of(ROW_5, (0, 0, 1, 1)), (1, 0, 0, 0))
        self.assertEqual(base_of(STAR, (1, 0, 0, 1, 1, 1)), (0, 0, 0, 1, 1, 1))
        self.assertEqual(base_of(STAR, (1, 1, 1, 1, 1, 1)), (1, 0, 0, 0, 0, 0))
        self.assertEqual(base_of(FORK, (1, 0, 0, 1)), (1, 0, 0, 0))
        for web, one, end in [(ROW_5, (0, 1, 0, 1), (1, 0, 1, 0)), (STAR, (1, 0, 0, 1, 1, 1), (0, 0, 0, 1, 1, 1)),
                              (STAR, (1, 1, 1, 1, 1, 1), (1, 0, 0, 0, 0, 0)), (WIDE, (0, 1, 0, 1), (1, 0, 0, 0))]:
            self.assertEqual(end_of(web, one, led_to_base(web, one)), end)

    def test_by_name(self):
        self.assertEqual(base_of(web=ROW_5, standing=(0, 1, 0, 1)), (1, 0, 1, 0))
        way = led_to_base(web=ROW_5, standing=(0, 1, 0, 1))
        self.assertEqual(fault_along(ROW_5, (0, 1, 0, 1), way), (1, 0, 1, 0))

    def test_all_deeds_of_small_webs(self):
        webs = SMALL_WEBS + [web for n in (2, 3, 4) for web in every_web(n)] + every_web(5)[3::11]
        webs.extend([bearing(web, Random(at), 3) for at, web in enumerate(every_web(4))])
        webs.extend([web_of(n, roads) for n, step in ((5, 7), (6, 50), (7, 900)) for roads in every_tree(n)[::step]])
        for web in webs:
            for one_class in all_classes(web):
                bases = set([self.check(web, standing) for standing in one_class])
                self.assertEqual(len(bases), 1)
                base = bases.pop()
                self.assertIn(base, one_class)
                self.assertEqual(sum(base), min([sum(standing) for standing in one_class]))

    def test_an_even_standing_is_its_own_base(self):
        for web in SMALL_WEBS + great_webs() + [ROUND_5, PAIR]:
            for standing in [(0,) * len(web[1]), web[2]]:
                if is_even_here(web, standing):
                    self.assertEqual(base_of(web, standing), standing)
                    self.assertEqual(fault_along(web, standing, led_to_base(web, standing)), standing)

    def test_bases_of_rows(self):
        dice = Random(6)
        for web in small_rows() + long_rows():
            row = row_of(web)
            second = [web[1].index((min(row[k:k + 2]), max(row[k:k + 2]))) for k in range(0, web[0] - 1, 2)]
            standings = [some_standing(web, dice) for _ in range(6)]
            standings.extend([some_pairing(web, dice, many) for many in range(1, (web[0] + 1) // 2)])
            for standing in standings:
                if not is_even_here(web, standing):
                    base = self.check(web, standing)
                    number = len(walls_of(web, standing))
                    laid = sorted(second[:number // 2])
                    self.assertEqual([road for road, load in enumerate(base) if load], laid)
                    self.assertEqual(walls_of(web, base), tuple(range(number)))

    def test_bases_of_near_standings(self):
        dice = Random(7)
        for spots in (4, 5, 7, 12):
            web = some_parted(dice, spots)
            least = min(elder_tree(web)[0])
            pairing = max([some_pairing(web, dice, spots) for _ in range(200)], key=sum)
            self.assertEqual(sum(pairing), spots - 1)
            for _ in range(20):
                base = self.check(web, pairing)
                sums = place_sums(web, base)
                self.assertEqual([place for place, total in enumerate(sums) if total != 1], [least])
                self.assertEqual(sums[least], 0)
                hole = place_sums(web, pairing).index(0)
                beside = [road for road, ends in enumerate(web[1]) if hole in ends]
                road = dice.choice(beside)
                double = pairing[:road] + (1,) + pairing[road + 1:]
                self.assertTrue(is_near(web, double))
                self.assertEqual(self.check(web, double), base)
                middle = sum(web[1][road]) - hole
                other = [k for k, ends in enumerate(web[1]) if middle in ends and k != road][0]
                pairing = double[:other] + (0,) + double[other + 1:]

    def test_bases_of_the_rest(self):
        dice = Random(8)
        webs = [some_web(dice, n, further) for n in (5, 6, 9, 24) for further in (1, 3, 9)]
        webs.extend([bearing(some_parted(dice, 6), dice, 2) for _ in range(3)] + great_webs())
        webs.extend([full_web(9, 1), board_web(5, 8, 1), path_web(3, 1), path_web(4, 1), ring_web(4, 1)])
        for web in webs:
            first = (1,) + (0,) * (len(web[1]) - 1)
            for standing in [some_standing(web, dice), some_standing(web, dice), some_pairing(web, dice, 3)]:
                if class_of(web, standing) == ("rest",):
                    self.assertEqual(self.check(web, standing), first)
            for road in range(len(web[1])):
                alone = (0,) * road + (1,) + (0,) * (len(web[1]) - road - 1)
                if len(web[1]) > 1:
                    self.check(web, alone)

    def test_no_call_takes_long(self):
        for web in great_webs():
            full = (8,) + (9,) * (len(web[1]) - 1)
            for standing in (full, full[::-1]):
                begin = perf_counter()
                self.check(web, standing)
                self.assertLess(perf_counter() - begin, 4)

    def test_wide_rows_led_to_one_load(self):
        for n in (5, 8, 13, 24):
            for web in (path_web(n, 1), ring_web(n, 1)):
                for road in range(len(web[1])):
                    wide = with_bound(web, road, 2)
                    standing = tuple([1 if k % 3 else 0 for k in range(len(web[1]))])
                    self.assertEqual(self.check(wide, standing), (1,) + (0,) * (len(web[1]) - 1))

    def test_all_standings_of_short_rows(self):
        for web in small_rows()[:6]:
            for standing in every_standing(web):
                self.check(web, standing)
