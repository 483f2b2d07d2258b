"""[D1], [D2]: is_pairing, holes_of, partner_of, passed, dropped; [D7] as far as it speaks of them."""

import unittest
from itertools import product
from random import Random

from tests.samples import FORK, FULL_4, KITE, PAIR, ROUND_4, ROUND_5, ROW, ROW_5, STAR, WIDE_FORK, every_standing
from tests.walking import fault_along, great_webs, place_sums, some_pairing
from unevenroads.errors import Unfit
from unevenroads.pairings import dropped, holes_of, is_pairing, partner_of, passed
from unevenroads.shapes import full_web, path_web, ring_web
from unevenroads.ways import end_of

FIVE = (1, 0, 0, 1)
WEBS = [PAIR, ROW, ROW_5, ROUND_4, ROUND_5, FORK, FULL_4, KITE, WIDE_FORK, STAR]


def pairs_of(web, standing):
    """A table of partners, if each place has the sum 0 or 1; otherwise None."""
    if max(place_sums(web, standing)) > 1:
        return None
    table = {}
    for (a, b), load in zip(web[1], standing):
        if load:
            table[a], table[b] = b, a
    return table


def road(web, a, b):
    """The number of the road between a and b, None if there is none."""
    ends = (min(a, b), max(a, b))
    return web[1].index(ends) if ends in web[1] else None


def way_to_hole(web, table, place, hole):
    """The way that passes, in the words of [D2]; None if place and hole are not as told."""
    if table is None or place not in table or hole in table or road(web, place, hole) is None:
        return None
    return ((road(web, place, hole), 1), (road(web, place, table[place]), -1))


def way_that_drops(web, table, place, hole, other):
    """The way that drops, in the words of [D2]; None if the places are not as told."""
    ahead = way_to_hole(web, table, place, hole)
    if ahead is None or road(web, place, other) is None or other not in table or table[place] == other:
        return None
    to_other = road(web, place, other)
    return (ahead[0], (to_other, 1), ahead[1], (road(web, other, table[other]), -1), (to_other, -1))


class PairingTest(unittest.TestCase):

    def test_examples(self):
        self.assertIs(is_pairing(FORK, FIVE), True)
        self.assertIs(is_pairing(FORK, (1, 1, 0, 0)), False)
        self.assertEqual(holes_of(FORK, FIVE), (2,))
        self.assertEqual(partner_of(FORK, FIVE, 4), 3)
        self.assertRaises(Unfit, partner_of, FORK, FIVE, 2)

    def test_by_name(self):
        self.assertIs(is_pairing(web=FORK, standing=FIVE), True)
        self.assertEqual(holes_of(web=FORK, standing=(0, 0, 0, 0)), (0, 1, 2, 3, 4))
        self.assertEqual(partner_of(web=FORK, standing=FIVE, place=0), 1)

    def test_all_standings_of_small_webs(self):
        for web in WEBS:
            for standing in every_standing(web):
                sums = place_sums(web, standing)
                self.assertIs(is_pairing(web, standing), max(sums) <= 1)
                holes = holes_of(web, standing)
                self.assertIsInstance(holes, tuple)
                self.assertEqual(list(holes), [place for place, total in enumerate(sums) if total == 0])
                table = pairs_of(web, standing)
                for place in range(web[0]):
                    if table is None or place not in table:
                        self.assertRaises(Unfit, partner_of, web, standing, place)
                    else:
                        self.assertEqual(partner_of(web, standing, place), table[place])

    def test_a_load_of_two_makes_no_pairing(self):
        self.assertIs(is_pairing(PAIR, (1,)), True)
        self.assertIs(is_pairing(PAIR, (2,)), False)
        self.assertRaises(Unfit, partner_of, PAIR, (2,), 0)
        self.assertRaises(Unfit, partner_of, PAIR, (0,), 0)
        self.assertEqual(holes_of(PAIR, (9,)), ())
        self.assertEqual(holes_of(KITE, (2, 0, 0, 0, 0)), (2, 3, 4))

    def test_pairings_of_none_one_and_as_many_as_can_be(self):
        row = path_web(24, 9)
        for laid in range(13):
            standing = tuple([1 if k % 2 == 0 and k < 2 * laid else 0 for k in range(23)])
            self.assertIs(is_pairing(row, standing), True)
            self.assertEqual(holes_of(row, standing), tuple(range(2 * laid, 24)))
            if laid:
                self.assertEqual([partner_of(row, standing, place) for place in (0, 2 * laid - 1)], [1, 2 * laid - 2])


class PassedTest(unittest.TestCase):

    def test_examples(self):
        standing = (0, 0, 0, 1, 1, 1)
        way = passed(STAR, standing, 4, 0)
        self.assertEqual(way, ((0, 1), (3, -1)))
        self.assertEqual(end_of(STAR, standing, way), (1, 0, 0, 0, 1, 1))
        self.assertRaises(Unfit, passed, FORK, FIVE, 3, 2)
        way = dropped(FORK, FIVE, 0, 2, 3)
        self.assertEqual(way, ((1, 1), (2, 1), (0, -1), (3, -1), (2, -1)))
        self.assertEqual(end_of(FORK, FIVE, way), (0, 1, 0, 0))
        self.assertRaises(Unfit, dropped, STAR, standing, 4, 0, 1)

    def test_by_name(self):
        self.assertEqual(passed(web=FORK, standing=FIVE, place=0, hole=2), ((1, 1), (0, -1)))
        self.assertEqual(len(dropped(web=FORK, standing=FIVE, place=0, hole=2, other=3)), 5)

    def check_passed(self, web, standing, table, place, hole):
        way = way_to_hole(web, table, place, hole)
        if way is None:
            self.assertRaises(Unfit, passed, web, standing, place, hole)
            return
        self.assertEqual(passed(web, standing, place, hole), way)
        end = fault_along(web, standing, way)
        behind = pairs_of(web, end)
        self.assertEqual((behind[place], table[place] in behind, sum(end)), (hole, False, sum(standing)))
        self.assertEqual(len(holes_of(web, end)), len(holes_of(web, standing)))

    def check_dropped(self, web, standing, table, place, hole, other):
        way = way_that_drops(web, table, place, hole, other)
        if way is None:
            self.assertRaises(Unfit, dropped, web, standing, place, hole, other)
            return
        self.assertEqual(dropped(web, standing, place, hole, other), way)
        end = fault_along(web, standing, way)
        self.assertIs(is_pairing(web, end), True)
        self.assertEqual(len(holes_of(web, end)), len(holes_of(web, standing)) + 2)
        self.assertEqual((partner_of(web, end, place), sum(end)), (hole, sum(standing) - 1))

    def test_all_pairings_and_places_of_small_webs(self):
        for web in WEBS:
            for standing in every_standing(web):
                table = pairs_of(web, standing)
                if table is None and sum(standing) % 3:
                    continue
                for place, hole in product(range(web[0]), repeat=2):
                    self.check_passed(web, standing, table, place, hole)
                    for other in range(web[0]):
                        self.check_dropped(web, standing, table, place, hole, other)

    def test_greater_webs(self):
        dice = Random(5)
        for web in great_webs() + [full_web(8, 1), ring_web(24, 1)]:
            for many in (0, 1, 2, 5, 12):
                standing = some_pairing(web, dice, many)
                table = pairs_of(web, standing)
                for place, hole in product(range(web[0]), repeat=2):
                    self.check_passed(web, standing, table, place, hole)
                for place, other in web[1] + tuple([ends[::-1] for ends in web[1]]):
                    for hole in range(web[0]):
                        self.check_dropped(web, standing, table, place, hole, other)

    def test_the_partner_or_the_place_itself_once_more(self):
        for places in [(0, 2, 1), (0, 2, 0), (0, 2, 2), (0, 1, 3), (0, 0, 3), (0, 3, 3), (2, 0, 3), (2, 2, 2)]:
            self.assertRaises(Unfit, dropped, FORK, FIVE, *places)
        for places in [(0, 1), (0, 0), (0, 3), (2, 0), (2, 2), (0, 4), (1, 2)]:
            self.assertRaises(Unfit, passed, FORK, FIVE, *places)

    def test_no_pairings(self):
        self.assertRaises(Unfit, passed, FORK, (1, 1, 0, 0), 0, 3)
        self.assertRaises(Unfit, dropped, FORK, (0, 1, 1, 1), 0, 1, 3)
        self.assertRaises(Unfit, passed, WIDE_FORK, (2, 0, 0), 0, 2)
        self.assertRaises(Unfit, passed, WIDE_FORK, (0, 0, 0), 0, 2)
        self.assertEqual(passed(WIDE_FORK, (1, 0, 0), 0, 2), ((1, 1), (0, -1)))
        self.assertRaises(Unfit, passed, WIDE_FORK, (1, 0, 0), 1, 2)
