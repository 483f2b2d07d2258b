"""[F3]: standing_at, number_of; [F4] as far as it speaks of them."""

import unittest
from itertools import combinations
from math import comb
from random import Random
from time import perf_counter

from tests.samples import (FORK, FULL_4, GREAT, KITE, ODD_VALUES, PAIR, STAR, every_standing)
from tests.walking import (all_classes, great_webs, is_even_here, long_rows, parted_by, small_rows, some_parted,
                           with_bound)
from unevenroads.errors import Unfit
from unevenroads.joining import class_of
from unevenroads.kinds import kind_of, row_of
from unevenroads.parted import parted_web
from unevenroads.shapes import board_web, full_web, path_web, ring_web
from unevenroads.walls import walls_of
from unevenroads.wallrows import number_of, standing_at


def order(web, standing):
    """What the standings of a class ascend by, in the words of [F3]."""
    kind = kind_of(web)
    if kind == "parted":
        return standing
    if kind == "path":
        return walls_of(web, standing)
    row = row_of(web)
    return walls_of(web, standing), standing[web[1].index(tuple(sorted(row[:2])))]


class WallrowsTest(unittest.TestCase):

    def setUp(self):
        self.row, self.ring = path_web(5, 1), ring_web(5, 1)
        self.star = parted_web(4, ((0, 1), (0, 2), (0, 3)))

    def test_examples(self):
        self.assertEqual([standing_at(self.row, ("walls", 2), number) for number in (0, 3, 4, 9)],
                         [(1, 0, 0, 0), (1, 1, 1, 1), (0, 1, 0, 0), (0, 0, 0, 1)])
        self.assertEqual(standing_at(self.row, ("walls", 4), 0), (1, 0, 1, 0))
        self.assertEqual(standing_at(self.ring, ("walls", 2), 0), (0, 1, 1, 1, 1))
        self.assertEqual(standing_at(self.ring, ("walls", 2), 1), (1, 0, 0, 0, 0))
        self.assertEqual(number_of(self.ring, (0, 0, 1, 0, 0)), 8)
        self.assertEqual(number_of(self.row, (0, 1, 1, 0)), 5)
        self.assertEqual([standing_at(self.star, ("near",), number) for number in (0, 2, 4)],
                         [(0, 0, 0, 1, 1, 1), (0, 0, 1, 1, 1, 1), (0, 1, 0, 1, 1, 1)])
        self.assertEqual(number_of(self.star, (1, 0, 0, 0, 1, 1)), 5)
        self.assertEqual(standing_at(path_web(24, 1), ("walls", 12), 2704155), (0,) * 12 + (1, 0) * 5 + (1,))
        self.assertRaises(Unfit, standing_at, self.row, ("walls", 2), 10)
        self.assertRaises(Unfit, standing_at, self.star, ("rest",), 0)
        self.assertRaises(Unfit, number_of, self.row, (0, 0, 0, 0))

    def test_by_name(self):
        self.assertEqual(standing_at(web=self.row, sort=("walls", 2), value=0), (1, 0, 0, 0))
        self.assertEqual(number_of(web=self.row, standing=(0, 1, 1, 0)), 5)

    def test_all_classes_of_small_webs(self):
        dice = Random(61)
        for web in small_rows() + [STAR, some_parted(dice, 4), some_parted(dice, 5)]:
            for one_class in all_classes(web):
                sort = class_of(web, one_class[0])
                if sort[0] in ("even", "rest"):
                    for standing in one_class[:20]:
                        self.assertRaises(Unfit, number_of, web, standing)
                    self.assertRaises(Unfit, standing_at, web, sort, 0)
                    continue
                in_order = sorted(one_class, key=lambda standing: order(web, standing))
                for number, standing in enumerate(in_order):
                    self.assertEqual(standing_at(web, sort, number), standing)
                    self.assertEqual(number_of(web, standing), number)
                self.assertRaises(Unfit, standing_at, web, sort, len(one_class))
                self.assertRaises(Unfit, standing_at, web, sort, -1)

    def test_first_last_and_drawn_numbers_of_long_rows(self):
        dice = Random(62)
        for web in long_rows():
            ring = len(web[1]) == web[0]
            for k in range(2, web[0], 2):
                size = comb(web[0], k) * (2 if ring else 1)
                first, last = parted_by(web, range(k), 0), parted_by(web, range(web[0] - k, web[0]), 1)
                self.assertEqual(standing_at(web, ("walls", k), 0), first)
                self.assertEqual(standing_at(web, ("walls", k), size - 1), last)
                self.assertEqual((number_of(web, first), number_of(web, last)), (0, size - 1))
                self.assertRaises(Unfit, standing_at, web, ("walls", k), size)
                some = sorted([dice.randrange(size) for _ in range(4)])
                found = [standing_at(web, ("walls", k), number) for number in some]
                self.assertEqual([number_of(web, standing) for standing in found], some)
                for standing in found:
                    self.assertEqual(class_of(web, standing), ("walls", k))
                places = [order(web, standing) for standing in found]
                self.assertEqual(places, sorted(places))

    def test_numbers_one_behind_another(self):
        dice = Random(63)
        web, choices = path_web(16, 1), list(combinations(range(16), 8))
        for number in [dice.randrange(len(choices)) for _ in range(60)]:
            self.assertEqual(walls_of(web, standing_at(web, ("walls", 8), number)), choices[number])
            self.assertEqual(number_of(web, parted_by(web, choices[number], 0)), number)
        web = ring_web(16, 1)
        for number in [dice.randrange(2 * len(choices)) for _ in range(60)]:
            standing = parted_by(web, choices[number // 2], number % 2)
            self.assertEqual(standing_at(web, ("walls", 8), number), standing)
            self.assertEqual(number_of(web, standing), number)

    def test_near_standings_of_greater_trees(self):
        dice = Random(64)
        for spots in range(4, 13):
            web = some_parted(dice, spots)
            found = [standing_at(web, ("near",), number) for number in range(2 * spots - 1)]
            self.assertEqual(found, sorted(set(found)))
            for number, standing in enumerate(found):
                self.assertEqual(class_of(web, standing), ("near",))
                self.assertEqual(number_of(web, standing), number)
            self.assertRaises(Unfit, standing_at, web, ("near",), 2 * spots - 1)

    def test_sorts_that_are_none(self):
        dice = Random(65)
        webs = [(self.row, [("walls", 2), ("walls", 4)]), (self.ring, [("walls", 2), ("walls", 4)]),
                (self.star, [("near",)]), (path_web(6, 1), [("walls", 2), ("walls", 4)]), (path_web(4, 1), []),
                (path_web(3, 1), []), (ring_web(4, 1), []), (PAIR, []), (FORK, []), (FULL_4, []), (KITE, []),
                (with_bound(self.row, 0, 2), []), (with_bound(self.star, 5, 2), []),
                (some_parted(dice, 12), [("near",)])]
        sorts = [("even",), ("rest",), ("near",), ["near"], ("near", 0), "near", ("walls",), ("walls", 2, 2),
                 ["walls", 2], ("Walls", 2), (("walls",), 2), ("walls", [2]), ("walls", (2,)), ("walls", "2"),
                 ("walls", None),
                 ("walls", True), ("walls", False), ("walls", GREAT), ("walls", -GREAT), (2, "walls"), {"walls": 2}]
        sorts.extend([("walls", number) for number in range(-3, 26)] + ODD_VALUES + [("walls", v) for v in ODD_VALUES])
        for web, right in webs:
            for sort in sorts:
                if sort in right and isinstance(sort, tuple):
                    self.assertEqual(class_of(web, standing_at(web, sort, 0)), sort)
                else:
                    self.assertRaises(Unfit, standing_at, web, sort, 0)

    def test_numbers_that_are_none(self):
        values = [True, False, None, "0", "", (), (0,), [], [0], {}, -1, -2, GREAT, -GREAT]
        for web, sort, size in [(self.row, ("walls", 2), 10), (self.ring, ("walls", 4), 10), (self.star, ("near",), 7)]:
            for value in values + [size, size + 1] + [value for value in ODD_VALUES if value not in (0, 1, 2)]:
                self.assertRaises(Unfit, standing_at, web, sort, value)
            for value in (0, 1, 2, size - 1):
                self.assertEqual(number_of(web, standing_at(web, sort, value)), value)

    def test_standings_without_a_number(self):
        for web in [PAIR, FORK, FULL_4, KITE, path_web(4, 1), path_web(3, 1), ring_web(4, 1),
                    with_bound(self.row, 1, 2)]:
            for standing in every_standing(web):
                self.assertRaises(Unfit, number_of, web, standing)
        for web in long_rows() + [STAR]:
            for standing in [(0,) * len(web[1]), (1,) * len(web[1])]:
                if is_even_here(web, standing) or web == STAR:
                    self.assertRaises(Unfit, number_of, web, standing)

    def test_too_many_is_never_raised(self):
        for web in great_webs() + [full_web(9, 1), board_web(5, 8, 1)]:
            for sort in [("walls", 2), ("near",), ("rest",), None]:
                self.assertRaises(Unfit, standing_at, web, sort, 0)
            self.assertRaises(Unfit, number_of, web, (1,) + (0,) * (len(web[1]) - 1))

    def test_no_call_takes_long(self):
        begin = perf_counter()
        for web in (path_web(24, 1), ring_web(24, 1)):
            for number in range(0, comb(24, 12), 100003):
                self.assertEqual(number_of(web, standing_at(web, ("walls", 12), number)), number)
        self.assertLess(perf_counter() - begin, 5)
