"""[K1], [K2]: wished, load_span; [K5] as far as it speaks of them."""

import unittest
from itertools import product
from random import Random
from time import perf_counter

from tests.samples import FORK, FULL_4, KITE, MIXED_ROW, PAIR, ROUND_5, ROW, ROW_5, STAR, WIDE_FORK, mixed
from tests.walking import (all_classes, great_webs, is_even_here, long_rows, parted_by, place_sums, small_rows,
                           some_parted, some_small_webs, some_standing, with_bound)
from unevenroads.joining import class_of
from unevenroads.renamed import renamed_standing, renamed_web
from unevenroads.shapes import path_web, ring_web
from unevenroads.standings import standing_error
from unevenroads.wallrows import standing_at
from unevenroads.wishes import load_span, wished


def every_wish(web):
    """All wishes of a web."""
    return list(product(*[(None,) + tuple(range(bears + 1)) for bears in web[2]]))


def has_wish(standing, wish):
    """Whether the standing has the wish."""
    return not [road for road, want in enumerate(wish) if want is not None and standing[road] != want]


def wish_of(standing, dice, share):
    """A wish with some loads of a standing."""
    return tuple([load if dice.random() < share else None for load in standing])


class WishesTest(unittest.TestCase):

    def setUp(self):
        self.row, self.wide = ROW_5, (3, ((0, 1), (1, 2)), (2, 2))

    def check(self, web, standing, wish, one_class):
        """Whether what is told is right, all standings of the class being known."""
        told = wished(web, standing, wish)
        right = [one for one in one_class if has_wish(one, wish)]
        if right:
            self.assertIn(told, right, (web, standing, wish))
        else:
            self.assertIsNone(told, (web, standing, wish))

    def test_examples(self):
        row, wide = self.row, self.wide
        self.assertIn(wished(row, (1, 0, 0, 0), (None, 1, None, 1)), [(0, 1, 1, 1), (1, 1, 1, 1)])
        self.assertIsNone(wished(row, (1, 0, 0, 0), (1, 0, 1, None)))
        self.assertEqual(wished(row, (1, 0, 1, 0), (1, 1, None, None)), (1, 1, 0, 1))
        self.assertEqual(wished(row, (0, 0, 0, 0), (None,) * 4), (0, 0, 0, 0))
        self.assertIsNone(wished(row, (0, 0, 0, 0), (None, None, None, 1)))
        self.assertEqual(wished(wide, (0, 1), (2, 0)), (2, 0))
        self.assertEqual(load_span(row, (1, 0, 1, 0), 0), (0, 1))
        self.assertEqual(load_span(row, (0, 0, 0, 0), 2), (0, 0))
        self.assertEqual(load_span(wide, (0, 1), 1), (0, 2))

    def test_by_name(self):
        self.assertEqual(wished(web=self.wide, standing=(0, 1), wish=(2, 0)), (2, 0))
        self.assertEqual(load_span(web=self.wide, standing=(0, 1), road=1), (0, 2))

    def test_all_wishes_of_small_webs(self):
        dice = Random(131)
        webs = [PAIR, ROW, ROW_5, MIXED_ROW, ROUND_5, FORK, WIDE_FORK, self.wide, STAR, FULL_4, path_web(3, 1)]
        webs.extend(some_small_webs()[::6] + [ring_web(3, 1), ring_web(4, 1), path_web(4, 1),
                                              with_bound(ROUND_5, 2, 2)])
        for web in webs:
            wishes = every_wish(web)
            for one_class in all_classes(web)[:6]:
                standing = dice.choice(one_class)
                for wish in dice.sample(wishes, min(150, len(wishes))):
                    self.check(web, standing, wish, one_class)
                for wish in [(None,) * len(web[1]), standing, one_class[0], one_class[-1]]:
                    self.check(web, standing, wish, one_class)

    def test_rows_and_elder_trees(self):
        dice = Random(132)
        for web in small_rows()[::3] + [path_web(10, 1), ring_web(9, 1), some_parted(dice, 5), some_parted(dice, 6)]:
            for one_class in all_classes(web):
                for _ in range(12):
                    wish = wish_of(some_standing(web, dice), dice, dice.choice((0.2, 0.5, 0.8, 1)))
                    self.check(web, dice.choice(one_class), wish, one_class)
                    wish = wish_of(dice.choice(one_class), dice, dice.choice((0.5, 0.8, 1)))
                    self.check(web, dice.choice(one_class), wish, one_class)

    def test_wishes_with_few_free_roads_of_elder_trees(self):
        dice = Random(133)
        for web in (STAR, some_parted(dice, 5), some_parted(dice, 4)):
            for one_class in all_classes(web):
                sort = class_of(web, one_class[0])
                if sort == ("near",):
                    near = one_class
                elif sort == ("rest",):
                    rest = one_class
            for free in range(5):
                for standing in near + [(0,) * len(web[1])]:
                    roads = dice.sample(range(len(web[1])), free)
                    wish = tuple([None if road in roads else load for road, load in enumerate(standing)])
                    self.check(web, rest[0], wish, rest)
                    self.check(web, near[0], wish, near)

    def test_great_classes(self):
        dice = Random(134)
        for web in great_webs() + [some_parted(dice, 12), path_web(24, 2), with_bound(path_web(24, 1), 5, 2)]:
            one_laid = (1,) + (0,) * (len(web[1]) - 1)
            for _ in range(6):
                standing = some_standing(web, dice)
                if class_of(web, standing) != ("rest",):
                    continue
                wish = wish_of(standing, dice, dice.choice((0, 0.5, 0.9, 1)))
                told = wished(web, one_laid, wish)
                self.assertIsNone(standing_error(web, told))
                self.assertTrue(has_wish(told, wish))
                self.assertEqual(class_of(web, told), ("rest",))
            bare = (0,) * len(web[1])
            self.assertIsNone(wished(web, one_laid, bare))
            for road in (0, len(web[1]) - 1):
                wish = bare[:road] + (None,) + bare[road + 1:]
                told = wished(web, one_laid, wish)
                self.assertTrue(has_wish(told, wish) and told[road] > 0)
                self.assertEqual(load_span(web, one_laid, road), (0, web[2][road]))
                self.assertEqual(load_span(web, bare, road), (0, 0))
            self.assertIsNone(wished(web, bare, one_laid))
            self.assertEqual(wished(web, bare, (None,) * len(bare)), bare)
            self.assertIsNotNone(wished(web, one_laid, (None,) * len(bare)))

    def test_long_rows(self):
        dice = Random(135)
        for web in long_rows():
            for number in range(2, web[0], 2):
                one, other = [parted_by(web, dice.sample(range(web[0]), number), dice.choice((0, 1))) for _ in range(2)]
                for share in (0, 0.3, 0.6, 0.9, 1):
                    wish = wish_of(other, dice, share)
                    told = wished(web, one, wish)
                    self.assertIsNone(standing_error(web, told))
                    self.assertTrue(has_wish(told, wish))
                    self.assertEqual(place_sums(web, told).count(1), number)
                further = parted_by(web, dice.sample(range(web[0]), number - 2), 1)
                self.assertIsNone(wished(web, one, further))
                # One road more or less between two walls makes four or none of them.
                every_second = parted_by(web, range(web[0]), 1)
                if place_sums(web, every_second).count(1) > number:
                    self.assertIsNone(wished(web, one, every_second))
                self.assertEqual([load_span(web, one, road) for road in (0, web[0] // 2)], [(0, 1), (0, 1)])

    def test_near_classes_of_greater_trees(self):
        dice = Random(136)
        for spots in (6, 9, 12):
            web = some_parted(dice, spots)
            near = [standing_at(web, ("near",), number) for number in range(2 * spots - 1)]
            for _ in range(40):
                self.check(web, dice.choice(near), wish_of(dice.choice(near), dice, dice.choice((0.1, 0.5, 0.9))), near)
                self.check(web, dice.choice(near), wish_of(some_standing(web, dice), dice, 0.3), near)
            for road in range(len(web[1])):
                loads = [one[road] for one in near]
                self.assertEqual(load_span(web, near[3], road), (min(loads), max(loads)))

    def test_spans_of_small_webs(self):
        for web in some_small_webs()[::2] + [PAIR, KITE, STAR, WIDE_FORK, self.wide, path_web(3, 9), path_web(3, 1)]:
            for one_class in all_classes(web)[:8]:
                for road in range(len(web[1])):
                    loads = [one[road] for one in one_class]
                    standing = one_class[len(one_class) // 2]
                    self.assertEqual(load_span(web, standing, road), (min(loads), max(loads)))
                    granted = []
                    for load in range(web[2][road] + 1):
                        wish = tuple([load if k == road else None for k in range(len(web[1]))])
                        if wished(web, standing, wish) is not None:
                            granted.append(load)
                    self.assertEqual((granted[0], granted[-1]), (min(loads), max(loads)))

    def test_even_standings(self):
        for web in [PAIR, path_web(4, 2), ring_web(4, 3), FULL_4]:
            for one_class in all_classes(web):
                standing = one_class[0]
                if is_even_here(web, standing):
                    self.assertEqual(wished(web, standing, standing), standing)
                    for road, load in enumerate(standing):
                        self.assertEqual(load_span(web, standing, road), (load, load))
                        other = load - 1 if load > 0 else load + 1
                        self.assertIsNone(wished(web, standing, (None,) * road + (other,) + standing[road + 1:]))

    def test_new_names(self):
        dice = Random(137)
        for web in (ROW, ROW_5, STAR, KITE):
            for names in mixed(web[0], 3):
                one, wish = some_standing(web, dice), wish_of(some_standing(web, dice), dice, 0.7)
                named, order = renamed_web(web, names)
                told = wished(named, renamed_standing(web, names, one), tuple([wish[road] for road in order]))
                self.assertIs(told is None, wished(web, one, wish) is None)

    def test_no_call_takes_long(self):
        dice = Random(138)
        for web in great_webs() + long_rows()[-4:]:
            begin = perf_counter()
            one, wish = some_standing(web, dice), wish_of(some_standing(web, dice), dice, 0.5)
            wished(web, one, wish), wished(web, one, (None,) * len(one))
            for road in range(len(one)):
                load_span(web, one, road)
            self.assertLess(perf_counter() - begin, 4)
