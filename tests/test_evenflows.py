"""[G4]: even_with, lack_paper, lack_holds; [G5] as far as it speaks of them."""

import unittest
from itertools import combinations
from random import Random
from time import perf_counter

from tests.samples import (FORK, FULL_4, GREAT, KITE, ODD_VALUES, PAIR, ROUND_4, ROUND_5, ROW, ROW_5, STAR, WIDE_FORK,
                           every_standing, every_tree, every_web, least_steps, mixed, web_of)
from tests.walking import bearing, great_webs, place_sums, some_tree
from unevenroads.errors import Unfit
from unevenroads.evenflows import even_with, lack_holds, lack_paper
from unevenroads.renamed import renamed_web
from unevenroads.shapes import board_web, full_web, path_web, ring_web
from unevenroads.standings import standing_error

TWIGS = (6, ((0, 3), (1, 3), (2, 3), (2, 4), (2, 5)), (9, 9, 9, 9, 9))


def two_sides(web):
    """The sides of the web, in the words of [G4]; None if it has not two."""
    steps = least_steps(web)[0]
    if any([steps[a] % 2 == steps[b] % 2 for a, b in web[1]]):
        return None
    return [[place for place in range(web[0]) if steps[place] % 2 == odd] for odd in (0, 1)]


def lacks(web, total, paper):
    """Whether the paper holds, in the words of [G4]; its lot is an ascending tuple of places."""
    both = two_sides(web)
    if paper == ("sides",):
        return total > 0 and len(both[0]) != len(both[1])
    lot = paper[1]
    for side, others in (both, both[::-1]):
        if set(lot) <= set(side):
            room = 0
            for place in others:
                bears = [most for ends, most in zip(web[1], web[2]) if place in ends and sum(ends) - place in lot]
                room += min(total, sum(bears))
            return total * len(lot) > room
    return False


class FlowsTest(unittest.TestCase):

    def check(self, web, total):
        """Whether there is an even standing or a paper; returns the standing."""
        standing, paper = even_with(web, total), lack_paper(web, total)
        if standing is None:
            self.assertTrue(lacks(web, total, paper), (web, total, paper))
            self.assertIs(lack_holds(web, total, paper), True)
        else:
            self.assertIsNone(paper)
            self.assertIsNone(standing_error(web, standing))
            self.assertEqual(set(place_sums(web, standing)), {total})
        return standing

    def unfit(self, web, total):
        self.assertRaises(Unfit, even_with, web, total)
        self.assertRaises(Unfit, lack_paper, web, total)
        for value in (None, ("sides",), ("few", (0,)), [], ("few", (0, 1))):
            self.assertRaises(Unfit, lack_holds, web, total, value)

    def test_examples(self):
        self.assertEqual(even_with(path_web(4, 2), 2), (2, 0, 2))
        self.assertEqual(even_with(TWIGS, 0), (0, 0, 0, 0, 0))
        self.assertIsNone(even_with(TWIGS, 1))
        self.assertIsNone(lack_paper(path_web(4, 2), 2))
        self.assertEqual(lack_paper(board_web(2, 3, 9), 1), ("sides",))
        told = [lack_holds(TWIGS, 1, value) for value in
                (("few", (0, 1)), ("few", (4, 5)), ("few", (0, 1, 2)), ("few", (1, 0)), ("few", (0, 4)), ("few", (0,)),
                 ("sides",), None)]
        self.assertEqual(told, [True, True, False, False, False, False, False, False])
        self.assertIs(lack_holds(path_web(4, 2), 3, ("few", (0,))), True)
        self.assertIs(lack_holds(path_web(4, 2), 3, ("few", (1,))), False)
        self.assertIs(lack_holds(path_web(4, 2), 3, ("few", (1, 3))), True)
        self.assertIs(lack_holds(board_web(2, 3, 9), 1, ("few", (2, 3, 4))), True)
        self.unfit(full_web(3, 2), 2)

    def test_by_name(self):
        self.assertEqual(even_with(web=path_web(4, 2), total=1), (1, 0, 1))
        self.assertEqual(lack_paper(web=board_web(2, 3, 9), total=1), ("sides",))
        self.assertIs(lack_holds(web=TWIGS, total=1, value=("few", (0, 1))), True)

    def small_webs(self):
        webs = [PAIR, ROW, ROW_5, STAR, FORK, WIDE_FORK, ROUND_4, TWIGS, path_web(6, 2), ring_web(6, 2),
                board_web(2, 2, 3), board_web(3, 3, 1), board_web(2, 3, 2), path_web(4, 9), ring_web(4, 3)]
        webs.extend([bearing(web, Random(at), 3) for at, web in enumerate(every_web(4))])
        webs.extend([web_of(n, roads, 2) for n, step in ((4, 1), (5, 9), (6, 90)) for roads in every_tree(n)[::step]])
        return webs + every_web(5)[::11]

    def test_small_webs(self):
        told = [0, 0]
        for web in self.small_webs():
            if two_sides(web) is None:
                for total in (0, 1, 2):
                    self.unfit(web, total)
                continue
            totals = set()
            if len(every_standing(web)) < 3000:
                for standing in every_standing(web):
                    sums = set(place_sums(web, standing))
                    if len(sums) == 1:
                        totals.update(sums)
            for total in range(max(place_sums(web, web[2])) + 2):
                standing = self.check(web, total)
                if totals:
                    self.assertEqual(standing is not None, total in totals)
                told[standing is None] += 1
        self.assertGreater(min(told), 50)

    def test_all_lots_of_small_webs(self):
        for web in self.small_webs()[:15]:
            both = two_sides(web)
            for total in range(max(place_sums(web, web[2])) + 2):
                self.assertIs(lack_holds(web, total, ("sides",)), lacks(web, total, ("sides",)))
                for many in range(1, web[0] + 1):
                    for lot in combinations(range(web[0]), many):
                        told = lack_holds(web, total, ("few", lot))
                        alike = set(lot) <= set(both[0]) or set(lot) <= set(both[1])
                        self.assertIs(told, alike and lacks(web, total, ("few", lot)), (web, total, lot))

    def test_never_a_standing_and_a_paper(self):
        for web in self.small_webs()[:15]:
            both = two_sides(web)
            for total in range(max(place_sums(web, web[2])) + 2):
                if even_with(web, total) is not None:
                    for side in both:
                        for many in range(1, len(side) + 1):
                            for lot in combinations(side, many):
                                self.assertIs(lack_holds(web, total, ("few", lot)), False)

    def test_webs_without_two_sides_and_totals_below_nought(self):
        for web in (FULL_4, KITE, ROUND_5, full_web(3, 2), ring_web(23, 9)):
            for total in (-1, 0, 1, GREAT):
                self.unfit(web, total)
        for web in (PAIR, ROW, board_web(2, 3, 9)):
            for total in (-1, -2, -GREAT):
                self.unfit(web, total)

    def test_total_nought(self):
        for web in (PAIR, ROW, STAR, FORK, TWIGS, board_web(5, 8, 9), board_web(1, 23, 9)):
            self.assertEqual(even_with(web, 0), (0,) * len(web[1]))
            self.assertIsNone(lack_paper(web, 0))
            for value in [("sides",), ("few", (0,)), ("few", (1,))]:
                self.assertIs(lack_holds(web, 0, value), False)

    def test_totals_just_at_what_roads_bear_and_beyond(self):
        for web, greatest in [(PAIR, 9), (path_web(24, 5), 5), (ring_web(24, 9), 18), (board_web(6, 6, 9), 54),
                              (board_web(2, 2, 9), 18), (path_web(4, 1)[:2] + ((3, 1, 2),), 2)]:
            self.assertIsNotNone(self.check(web, greatest))
            for total in (greatest + 1, 2 * greatest, 10 ** 30, GREAT):
                self.assertIsNone(self.check(web, total))
                self.assertEqual(lack_paper(web, total)[0], "few")

    def test_sides_of_unlike_many_places(self):
        for web in (ROW_5, FORK, STAR, board_web(2, 3, 9), board_web(1, 23, 1), path_web(23, 9)):
            for total in (1, 2, 9, GREAT):
                self.assertEqual(lack_paper(web, total), ("sides",))
                self.assertIsNone(even_with(web, total))
                self.assertIs(lack_holds(web, total, ("sides",)), True)
        for web in (ROW, ring_web(6, 1), board_web(3, 3, 9), PAIR):
            for total in (0, 1, 2, GREAT):
                self.assertIs(lack_holds(web, total, ("sides",)), False)

    def test_drawn_webs(self):
        dice = Random(41)
        told = [0, 0]
        for _ in range(80):
            half = dice.choice((3, 4, 6, 9, 12))
            roads = set([(dice.randrange(place), half + place) for place in range(1, half)] + [(0, half)])
            roads.update([(place, half + dice.randrange(place)) for place in range(1, half)])
            for _ in range(dice.choice((0, 2, 8, 17))):
                if len(roads) < 40:
                    roads.add((dice.randrange(half), half + dice.randrange(half)))
            web = bearing(web_of(2 * half, roads), dice, dice.choice((1, 3, 9)))
            web = renamed_web(web, tuple(dice.sample(range(web[0]), web[0])))[0]
            for total in range(0, 12):
                told[self.check(web, total) is None] += 1
        self.assertGreater(min(told), 100)

    def test_trees(self):
        dice = Random(42)
        for n in (8, 16, 24):
            for back in (1, 2, 5):
                web = bearing(web_of(n, some_tree(dice, n, back)), dice, 9)
                for total in range(11):
                    self.check(web, total)

    def test_no_call_takes_long(self):
        for web in great_webs():
            if two_sides(web) is not None:
                for total in (1, 9, 17, 18, 27, GREAT):
                    begin = perf_counter()
                    self.check(web, total)
                    self.assertLess(perf_counter() - begin, 3)

    def test_new_names(self):
        for web in (ROW, ROUND_4, TWIGS, path_web(6, 3), board_web(3, 3, 2)):
            for names in mixed(web[0], 4):
                for total in range(5):
                    other = renamed_web(web, names)[0]
                    self.assertEqual(self.check(other, total) is None, even_with(web, total) is None)


class LackHoldsTest(unittest.TestCase):

    def refused(self, value, total=1, web=TWIGS):
        self.assertIs(lack_holds(web, total, value), False, value)

    def test_lots_that_do_not_ascend_or_are_empty(self):
        for lot in [(), (1, 0), (0, 0), (0, 1, 1), (0, 0, 1), (1, 0, 2), (5, 4), (4, 4, 5)]:
            self.refused(("few", lot))

    def test_lots_on_both_sides(self):
        for lot in [(0, 3), (0, 1, 3), (0, 1, 4, 5), (0, 1, 2, 3, 4, 5)]:
            self.refused(("few", lot))
            self.refused(("few", lot), GREAT)

    def test_what_is_no_place(self):
        for wrong in (-1, 6, GREAT, -GREAT, True, False, None, "0", (), [], {}):
            self.refused(("few", (wrong,)), 100)
            self.refused(("few", (0, wrong)), 100)
            self.refused(("few", (wrong, 1)), 100)
        self.refused(("few", (False, 1)), 100)
        self.refused(("few", (0, True)), 100)
        self.assertIs(lack_holds(TWIGS, 100, ("few", (0, 1))), True)

    def test_other_forms(self):
        for value in [["few", (0, 1)], ("few", [0, 1]), ("few",), ("few", (0, 1), ()), ("few", 0), ("few", 0, 1),
                      ("Few", (0, 1)), (("few",), (0, 1)), {"few": (0, 1)}, "few", ("sides", ()), ("sides", 0),
                      ["sides"], "sides", (), (None,), ("few", {0: 1}), ((0, 1), "few"), ("few", "01")]:
            self.refused(value)
            self.refused(value, 1, board_web(2, 3, 9))

    def test_odd_values(self):
        for value in ODD_VALUES + [("few", value) for value in ODD_VALUES] + [(value, (0, 1)) for value in ODD_VALUES]:
            self.refused(value)

    def test_as_much_as_there_is_room_for(self):
        # Two places with two roads of 2 each find room for 2 on each other side, but for no more.
        ring = ring_web(4, 2)
        self.refused(("few", (0, 2)), 4, ring)
        self.assertIs(lack_holds(ring, 5, ("few", (0, 2))), True)
        self.assertIs(lack_holds(ring, 5, ("few", (1,))), True)
        self.refused(("few", (1,)), 4, ring)
