"""[C4]: elder_tree, parted_web; [C6] as far as it speaks of elder trees."""

import unittest

from tests.samples import (FORK, FULL_4, GREAT, KITE, PAIR, ROUND_5, ROW, ROW_5, STAR, every_tree, every_web, has,
                           is_parted, mixed, sides, web_of)
from unevenroads.errors import Unfit
from unevenroads.kinds import kind_of
from unevenroads.parted import elder_tree, parted_web
from unevenroads.renamed import renamed_web
from unevenroads.shapes import path_web, ring_web
from unevenroads.webs import web_error

THREE = ((0, 1), (0, 2), (0, 3))


class ElderTreeTest(unittest.TestCase):

    def test_examples(self):
        self.assertEqual(elder_tree(STAR), ((0, 1, 2, 3), ((0, 1, 4), (0, 2, 5), (0, 3, 6))))
        self.assertEqual(elder_tree(web=ROW_5), ((0, 2, 4), ((0, 2, 1), (2, 4, 3))))
        self.assertEqual(elder_tree((3, ((0, 1), (1, 2)), (1, 1))), ((0, 2), ((0, 2, 1),)))
        self.assertRaises(Unfit, elder_tree, FORK)

    def test_place_0_in_the_middle(self):
        self.assertEqual(elder_tree(web_of(3, [(0, 1), (0, 2)], 4)), ((1, 2), ((1, 2, 0),)))
        self.assertEqual(elder_tree(web_of(5, [(4, 0), (0, 3), (3, 1), (1, 2)])), ((2, 3, 4), ((2, 3, 1), (3, 4, 0))))

    def test_other_webs(self):
        for web in [PAIR, ROW, FORK, FULL_4, KITE, ROUND_5, ring_web(4, 1), ring_web(24, 1), path_web(24, 1)]:
            self.assertRaises(Unfit, elder_tree, web)

    def check(self, web):
        if not is_parted(web):
            self.assertRaises(Unfit, elder_tree, web)
            return
        spots, tree = elder_tree(web)
        middles = [side for side in sides(web) if all([has(web)[x] == 2 for x in side])]
        self.assertEqual(len(middles), 1)
        self.assertEqual(list(spots), [x for x in range(web[0]) if x not in middles[0]])
        self.assertEqual(sorted([middle for _, _, middle in tree]), sorted(middles[0]))
        self.assertEqual(list(tree), sorted(tree))
        for a, b, middle in tree:
            self.assertLess(a, b)
            for spot in (a, b):
                self.assertIn((min(spot, middle), max(spot, middle)), web[1])

    def test_all_trees(self):
        for n in (3, 4, 5, 6, 7):
            for roads in every_tree(n):
                self.check(web_of(n, roads, 1 + n % 3))

    def test_all_webs_of_five_places_and_fewer(self):
        for n in (2, 3, 4, 5):
            for web in every_web(n):
                self.check(web)

    def test_elder_tree_of_parted_web(self):
        for s in (3, 4, 5):
            for tree in every_tree(s):
                told = tuple([(a, b, s + j) for j, (a, b) in enumerate(tree)])
                self.assertEqual(elder_tree(parted_web(s, tree)), (tuple(range(s)), told))

    def test_new_names(self):
        for names in mixed(7, 20):
            spots, tree = elder_tree(renamed_web(STAR, names)[0])
            self.assertEqual(spots, tuple(sorted(names[:4])))
            self.assertEqual([middle for _, _, middle in sorted(tree, key=lambda three: three[2])], sorted(names[4:]))
            self.assertTrue(all([names[0] in (a, b) for a, b, _ in tree]))


class PartedWebTest(unittest.TestCase):

    def test_examples(self):
        self.assertEqual(parted_web(4, THREE), STAR)
        self.assertEqual(parted_web(3, ((0, 1), (1, 2))), (5, ((0, 3), (1, 3), (1, 4), (2, 4)), (1, 1, 1, 1)))
        self.assertRaises(Unfit, parted_web, 2, ((0, 1),))
        self.assertRaises(Unfit, parted_web, 4, ((0, 1), (2, 3), (0, 1)))
        self.assertEqual(parted_web(s=4, tree=THREE), STAR)

    def test_kinds(self):
        for s in (3, 4, 5):
            for tree in every_tree(s):
                web = parted_web(s, tree)
                self.assertIsNone(web_error(web))
                self.assertEqual(web[0], 2 * s - 1)
                self.assertEqual(kind_of(web), "path" if max(has(web)) < 3 else "parted")
                for j, (a, b) in enumerate(tree):
                    self.assertIn((a, s + j), web[1])
                    self.assertIn((b, s + j), web[1])

    def test_the_greatest(self):
        star = tuple([(0, x) for x in range(1, 12)])
        self.assertEqual(parted_web(12, star)[0], 23)
        self.assertIsNone(web_error(parted_web(12, star)))
        self.assertRaises(Unfit, parted_web, 13, star + ((0, 12),))
        self.assertRaises(Unfit, parted_web, 24, tuple([(x, x + 1) for x in range(23)]))
        self.assertRaises(Unfit, parted_web, 41, tuple([(x, x + 1) for x in range(40)]))
        self.assertRaises(Unfit, parted_web, 60, tuple([(x, x + 1) for x in range(59)]))

    def test_spots_that_do_not_fit(self):
        for s in [-GREAT, -4, -1, 0, 1, 2, 3, 5, 6, 12, 13, 24, GREAT]:
            self.assertRaises(Unfit, parted_web, s, THREE)
            self.assertRaises(Unfit, parted_web, s, ())

    def test_trees_that_are_none(self):
        for s, tree in [
            (4, ()), (1, ()), (2, ((0, 1),)), (3, ((0, 1),)), (4, ((0, 1), (0, 2))), (4, ((0, 1), (0, 3), (0, 2))),
            (4, ((0, 2), (0, 1), (0, 3))), (4, ((0, 1), (0, 1), (0, 2))), (4, ((0, 1), (0, 2), (0, 2))),
            (4, ((0, 1), (0, 2), (3, 0))), (4, ((0, 1), (0, 2), (2, 1))), (4, ((0, 1), (0, 2), (1, 2))),
            (4, ((0, 1), (0, 2), (0, 3), (1, 2))), (3, ((0, 1), (0, 2), (1, 2))), (4, ((0, 1), (0, 2), (0, 4))),
            (4, ((-1, 0), (0, 1), (0, 2))), (4, ((0, 0), (0, 1), (0, 2))), (4, ((0, 1), (0, 2), (0, GREAT))),
            (5, ((0, 1), (0, 2), (1, 2), (3, 4))), (4, ((0, 1), (2, 3))), (4, ((0, 1), (2, 3), (2, 3))),
            (4, ((1, 2), (1, 3), (2, 3))), (5, THREE), (3, THREE),
        ]:
            self.assertRaises(Unfit, parted_web, s, tree)
