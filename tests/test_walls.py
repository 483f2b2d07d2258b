"""[E2]: walls_of, is_near; [E6] as far as it speaks of them."""

import unittest
from random import Random

from tests.samples import (FORK, FULL_4, KITE, PAIR, ROUND_4, ROUND_5, ROW, ROW_5, STAR, WIDE_FORK, every_standing,
                           every_tree, every_web, has, is_parted, sides, web_of)
from tests.walking import (long_rows, neighbours_of, place_sums, small_rows, some_parted, some_standing, with_bound)
from unevenroads.errors import Unfit
from unevenroads.kinds import row_of
from unevenroads.parted import elder_tree
from unevenroads.shapes import board_web, full_web, path_web, ring_web
from unevenroads.walls import is_near, walls_of


def near(web, standing):
    """Whether the standing is near, in the words of [E2]."""
    sums = place_sums(web, standing)
    middles = [side for side in sides(web) if all([has(web)[x] == 2 for x in side])][0]
    odd = [place for place in range(web[0]) if sums[place] != 1]
    return len(odd) == 1 and sums[odd[0]] == (2 if odd[0] in middles else 0)


class WallsTest(unittest.TestCase):

    def test_examples(self):
        self.assertEqual(walls_of(ROW_5, (0, 1, 0, 1)), (1, 2, 3, 4))
        self.assertEqual(walls_of(ROW_5, (1, 1, 1, 0)), (0, 3))
        self.assertEqual(walls_of(ROUND_5, (1, 0, 0, 1, 0)), (0, 1, 2, 3))
        self.assertEqual(walls_of(web=ROUND_5, standing=(1, 1, 1, 1, 1)), ())
        self.assertRaises(Unfit, walls_of, STAR, (0, 0, 0, 0, 0, 0))

    def test_all_standings_of_small_rows(self):
        for web in small_rows() + [path_web(3, 1), path_web(4, 1), ring_web(3, 1), ring_web(4, 1)]:
            row = row_of(web)
            for standing in every_standing(web):
                sums = place_sums(web, standing)
                walls = walls_of(web, standing)
                self.assertEqual(walls, tuple([i for i in range(web[0]) if sums[row[i]] == 1]))
                self.assertEqual(len(walls) % 2, 0)
                for other in neighbours_of(web, standing):
                    moved = walls_of(web, other)
                    self.assertEqual(len(moved), len(walls))
                    gone = [i for i in walls if i not in moved] + [i for i in moved if i not in walls]
                    self.assertEqual(len(gone), 2)
                    self.assertIn(abs(gone[0] - gone[1]), (1, web[0] - 1))

    def test_long_rows(self):
        dice = Random(1)
        for web in long_rows():
            row = row_of(web)
            for _ in range(5):
                standing = some_standing(web, dice)
                sums = place_sums(web, standing)
                self.assertEqual(walls_of(web, standing), tuple([i for i in range(web[0]) if sums[row[i]] == 1]))
            self.assertEqual(walls_of(web, (0,) * len(web[1])), ())
            full = () if len(web[1]) == web[0] else (0, web[0] - 1)
            self.assertEqual(walls_of(web, (1,) * len(web[1])), full)

    def test_two_kinds_of_bare_and_full(self):
        self.assertEqual(walls_of(path_web(6, 1), (1, 0, 1, 0, 1)), (0, 1, 2, 3, 4, 5))
        self.assertEqual(walls_of(path_web(3, 1), (0, 1)), (1, 2))

    def test_other_webs(self):
        for web in [PAIR, (2, ((0, 1),), (1,)), ROW, ROUND_4, STAR, FORK, FULL_4, KITE, WIDE_FORK, board_web(1, 3, 1),
                    full_web(4, 1), path_web(3, 2), ring_web(3, 9), path_web(24, 2)]:
            self.assertRaises(Unfit, walls_of, web, (0,) * len(web[1]))
        for road in range(4):
            self.assertRaises(Unfit, walls_of, with_bound(ROW_5, road, 2), (0, 1, 0, 1))
        for n in (3, 4, 5):
            for web in every_web(n):
                if max(has(web)) > 2:
                    self.assertRaises(Unfit, walls_of, web, (0,) * len(web[1]))


class NearTest(unittest.TestCase):

    def test_examples(self):
        self.assertIs(is_near(ROW_5, (0, 1, 0, 1)), True)
        self.assertIs(is_near(ROW_5, (0, 1, 1, 1)), False)
        told = [is_near(STAR, standing) for standing in
                ((0, 0, 0, 1, 1, 1), (1, 0, 0, 1, 1, 1), (1, 0, 0, 0, 1, 1), (1, 0, 0, 0, 0, 0))]
        self.assertEqual(told, [True, True, True, False])
        self.assertIs(is_near(web=STAR, standing=(1, 1, 1, 1, 1, 1)), False)

    def test_a_middle_without_loads_or_a_spot_with_two_is_not_near(self):
        # The roads of path_web(5, 1) are those between the spots 0, 2, 4 and the middles 1, 3.
        for standing, right in [((1, 0, 1, 0), True), ((0, 1, 0, 1), True), ((1, 0, 0, 1), True), ((1, 1, 0, 1), True),
                                ((1, 0, 1, 1), True), ((0, 0, 1, 0), False), ((1, 1, 1, 1), False),
                                ((0, 1, 1, 0), False), ((0, 0, 0, 0), False), ((1, 1, 1, 0), False)]:
            self.assertIs(is_near(ROW_5, standing), right, standing)

    def test_all_standings_of_small_trees(self):
        for n in (3, 5, 7):
            for roads in every_tree(n)[::1 if n < 7 else 29]:
                web = web_of(n, roads)
                if not is_parted(web):
                    self.assertRaises(Unfit, is_near, web, (0,) * (n - 1))
                    continue
                found = [standing for standing in every_standing(web) if is_near(web, standing)]
                self.assertEqual(found, [standing for standing in every_standing(web) if near(web, standing)])
                self.assertEqual(len(found), n)
                for standing in found:
                    if len(set(place_sums(web, standing))) > 1 and n > 3:
                        self.assertTrue(all([is_near(web, other) for other in neighbours_of(web, standing)]))

    def test_greater_trees(self):
        dice = Random(3)
        for spots in (4, 7, 12):
            web = some_parted(dice, spots)
            for _ in range(30):
                standing = some_standing(web, dice)
                self.assertIs(is_near(web, standing), near(web, standing))
            _, tree = elder_tree(web)
            hole = tree[0][0]
            standing = self.with_hole(web, hole, tree)
            self.assertIs(is_near(web, standing), True)
            for road in range(len(web[1])):
                other = standing[:road] + (1 - standing[road],) + standing[road + 1:]
                self.assertIs(is_near(web, other), near(web, other))

    def with_hole(self, web, hole, tree):
        loads, reached = [0] * len(web[1]), [hole]
        while len(reached) <= len(tree):
            for a, b, middle in tree:
                for x, y in ((a, b), (b, a)):
                    if x in reached and y not in reached:
                        loads[web[1].index((min(middle, y), max(middle, y)))] = 1
                        reached.append(y)
        return tuple(loads)

    def test_other_webs(self):
        for web in [PAIR, ROW, ROUND_4, ROUND_5, FORK, FULL_4, KITE, WIDE_FORK, path_web(4, 1), path_web(24, 1),
                    ring_web(23, 1), board_web(2, 3, 1)]:
            self.assertRaises(Unfit, is_near, web, (0,) * len(web[1]))
        for web in (ROW_5, STAR, path_web(3, 1)):
            for road in range(len(web[1])):
                self.assertRaises(Unfit, is_near, with_bound(web, road, 2), (0,) * len(web[1]))
