"""[D3], [D4], [D6]: fewest, lessened; [D7] as far as it speaks of lessened."""

import unittest
from itertools import combinations
from random import Random

from tests.samples import (FORK, FULL_4, PAIR, ROUND_5, ROW_5, SMALL_WEBS, STAR, every_standing, every_tree, every_web,
                           is_parted, mixed, web_of)
from tests.walking import (all_classes, bearing, fault_along, great_webs, is_even_here, long_rows, place_sums,
                           small_rows, some_parted, some_pairing, some_standing, some_web, with_bound)
from unevenroads.joining import class_of
from unevenroads.lessening import fewest, lessened
from unevenroads.parted import elder_tree
from unevenroads.renamed import renamed_web
from unevenroads.shapes import board_web, full_web, path_web, ring_web
from unevenroads.walls import is_near
from unevenroads.ways import end_of

WIDE = with_bound(ROW_5, 3, 2)


def wide_rows(n):
    """Paths and rings of n places of which one road bears 2, their places in some order."""
    found = []
    for at, web in enumerate((path_web(n, 1), ring_web(n, 1))):
        named = renamed_web(web, mixed(n, 3)[at])[0]
        found.extend([with_bound(named, road, 2) for road in range(len(web[1]))])
    return found


def all_pairings(web):
    """All pairings of two pairs or more, with a hole, of a web."""
    found = []
    for many in range(2, (web[0] + 1) // 2):
        for laid in combinations(range(len(web[1])), many):
            if len(set([place for road in laid for place in web[1][road]])) == 2 * many:
                found.append(tuple([1 if road in laid else 0 for road in range(len(web[1]))]))
    return found


class LesseningTest(unittest.TestCase):

    def check(self, web, standing, least):
        self.assertEqual(fewest(web, standing), least, (web, standing))
        way = lessened(web, standing)
        if sum(standing) == least:
            self.assertIsNone(way, (web, standing))
            return
        end = fault_along(web, standing, way)
        self.assertIsInstance(end, tuple, (web, standing, way, end))
        self.assertLess(sum(end), sum(standing), (web, standing))

    def check_uneven(self, web, standing, least):
        self.check(web, standing, sum(standing) if is_even_here(web, standing) else least)

    def test_examples(self):
        self.assertEqual(fewest(ROW_5, (1, 1, 1, 0)), 1)
        self.assertEqual(fewest(ROW_5, (0, 1, 0, 1)), 2)
        self.assertIsNone(lessened(ROW_5, (0, 1, 0, 1)))
        self.assertLess(sum(end_of(ROW_5, (1, 1, 1, 0), lessened(ROW_5, (1, 1, 1, 0)))), 3)
        self.assertEqual(fewest(WIDE, (0, 1, 0, 1)), 1)
        self.assertEqual(fewest(STAR, (0, 0, 0, 1, 1, 1)), 3)
        self.assertEqual(fewest(STAR, (1, 1, 1, 1, 1, 1)), 1)
        self.assertEqual(fewest(ROW_5, (0, 0, 0, 0)), 0)
        self.assertIsNone(lessened(FORK, (0, 0, 1, 0)))
        self.assertEqual(sum(end_of(WIDE, (0, 1, 0, 1), lessened(WIDE, (0, 1, 0, 1)))), 1)

    def test_by_name(self):
        self.assertEqual(fewest(web=ROW_5, standing=(0, 1, 0, 1)), 2)
        self.assertIsNone(lessened(web=ROW_5, standing=(0, 1, 0, 1)))

    def test_all_deeds_of_small_webs(self):
        webs = SMALL_WEBS + [web for n in (2, 3, 4) for web in every_web(n)] + every_web(5)[::7]
        webs.extend([bearing(web, Random(at), 3) for at, web in enumerate(every_web(4))])
        webs.extend([web_of(n, roads) for n, step in ((5, 5), (6, 40), (7, 700)) for roads in every_tree(n)[::step]])
        for web in webs:
            for one_class in all_classes(web):
                least = min([sum(standing) for standing in one_class])
                for standing in one_class:
                    self.check(web, standing, least)

    def test_the_fewest_are_told_by_the_class(self):
        dice = Random(2)
        webs = small_rows() + long_rows() + great_webs() + [some_parted(dice, spots) for spots in (4, 5, 8, 12)]
        for web in webs:
            for _ in range(5):
                standing = some_standing(web, dice)
                sort = class_of(web, standing)
                least = {"even": sum(standing), "walls": sort[-1], "near": 0, "rest": 1}[sort[0]]
                if sort[0] == "walls":
                    least //= 2
                elif sort[0] == "near":
                    least = len(elder_tree(web)[0]) - 1
                self.check(web, standing, least)

    def test_even_bare_and_full_standings(self):
        for web in SMALL_WEBS + great_webs() + long_rows():
            bare = (0,) * len(web[1])
            self.check(web, bare, 0)
            if is_even_here(web, web[2]):
                self.check(web, web[2], sum(web[2]))
        self.check(FULL_4, (0, 1, 1, 1, 1, 0), 4)
        self.check(ROUND_5, (1,) * 5, 5)
        self.check(PAIR, (9,), 9)
        self.check(path_web(3, 1), (1, 1), 1)
        self.check(full_web(9, 9), (9,) * 36, 324)
        self.check(full_web(9, 9), (8,) + (9,) * 35, 1)
        self.check(board_web(1, 23, 9), (9,) * 23, 1)

    def test_rows_in_which_all_roads_bear_one(self):
        for web in small_rows():
            for standing in every_standing(web):
                walls = len([total for total in place_sums(web, standing) if total == 1])
                self.check_uneven(web, standing, walls // 2)

    def test_rows_of_which_one_road_bears_two(self):
        for n in (5, 6, 7):
            for web in wide_rows(n):
                for standing in every_standing(web):
                    self.check_uneven(web, standing, 1)
        for n in (8, 9, 10):
            for web in wide_rows(n):
                for standing in all_pairings(web):
                    self.check_uneven(web, standing, 1)
        dice = Random(9)
        for n in (11, 15, 20, 23, 24):
            for web in wide_rows(n):
                for many in (2, 3, n // 4, n // 2):
                    self.check_uneven(web, some_pairing(web, dice, many), 1 if many else 0)

    def test_trees_with_an_elder_tree(self):
        dice = Random(12)
        for spots in (4, 5, 6, 9, 12):
            web = some_parted(dice, spots)
            for many in list(range(2, spots)) * 3:
                standing = some_pairing(web, dice, many)
                self.check_uneven(web, standing, spots - 1 if is_near(web, standing) else 1)

    def test_near_standings_if_one_road_bears_two(self):
        dice = Random(13)
        for spots in (3, 4, 5, 6, 9, 12):
            web = some_parted(dice, spots)
            standing = max([some_pairing(web, dice, spots) for _ in range(200)], key=sum)
            self.assertEqual(sum(standing), spots - 1)
            self.assertTrue(is_near(web, standing))
            if spots > 3:
                self.check(web, standing, spots - 1)
            for road in range(len(web[1])):
                self.check(with_bound(web, road, 2), standing, 1)

    def test_pairings_of_all_small_trees(self):
        for n, step in ((5, 1), (6, 7), (7, 97), (8, 2741)):
            for roads in every_tree(n)[::step]:
                web = web_of(n, roads)
                if max([sum([place in ends for ends in roads]) for place in range(n)]) > 2:
                    for standing in all_pairings(web):
                        stuck = is_parted(web) and is_near(web, standing)
                        self.check_uneven(web, standing, sum(standing) if stuck else 1)

    def test_pairings_of_webs_where_little_meets(self):
        # Long rows with one place of three roads: what can be dropped is far away from most pairs.
        dice = Random(14)
        webs = []
        for n in (6, 7, 8, 9, 12, 16, 23, 24):
            line = [(place, place + 1) for place in range(n - 2)]
            ring = [(0, n - 2)]
            for at in sorted(set([1, 2, n // 2, n - 3])):
                webs.append(web_of(n, line + [(at, n - 1)]))
                webs.append(web_of(n, line + ring + [(at, n - 1)]))
                webs.append(web_of(n, line + [(0, at + 1), (n - 2, n - 1)]))
        for at, web in enumerate(webs):
            web = renamed_web(web, tuple(dice.sample(range(web[0]), web[0])))[0]
            if web[0] < 9:
                standings = all_pairings(web)
            else:
                standings = [some_pairing(web, dice, many) for many in (2, 2, 3, 4, web[0] // 3, web[0] // 2) * 3]
            for standing in standings:
                stuck = is_parted(web) and is_near(web, standing)
                self.check_uneven(web, standing, sum(standing) if stuck else 1)

    def test_pairings_of_drawn_webs(self):
        dice = Random(15)
        for at in range(150):
            n = dice.choice((5, 6, 7, 8, 12, 18, 24))
            web = some_web(dice, n, dice.choice((0, 1, 2, 5, 17)))
            if max([sum([place in ends for ends in web[1]]) for place in range(n)]) > 2:
                if at % 3 == 0:
                    web = bearing(web, dice, 3)
                for many in (2, 3, n // 3, n // 2):
                    standing = some_pairing(web, dice, many)
                    stuck = max(web[2]) == 1 and is_parted(web) and is_near(web, standing)
                    self.check_uneven(web, standing, sum(standing) if stuck else 1)
