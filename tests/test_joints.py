"""[K4]: joint, bridged; [K5] as far as it speaks of them."""

import unittest
from random import Random

from tests.samples import FORK, FULL_4, KITE, PAIR, ROUND_5, ROW, ROW_5, SMALL_WEBS, STAR, WIDE_FORK, web_of
from tests.walking import bearing, let_here, some_standing, some_tree, some_web
from unevenroads.errors import Unfit
from unevenroads.joints import bridged, joint
from unevenroads.shapes import board_web, full_web, path_web, ring_web
from unevenroads.webs import web_error


def put_together(n, one, other, names, further):
    """The web of n places with the roads of one, those of other with new names, and further ones: by a dict."""
    bears = dict(zip(one[1], one[2]))
    bears.update(further)
    for (a, b), most in zip(other[1], other[2]):
        bears[tuple(sorted((names[a], names[b])))] = most
    roads = sorted(bears)
    return (n, tuple(roads), tuple([bears[ends] for ends in roads]))


class JointsTest(unittest.TestCase):

    def setUp(self):
        self.three, self.two = (3, ((0, 1), (1, 2)), (1, 1)), (2, ((0, 1),), (2,))

    def test_examples(self):
        three, two = self.three, self.two
        self.assertEqual(joint(three, two, 1, 0), ((4, ((0, 1), (1, 2), (1, 3)), (1, 1, 2)), (2,)))
        self.assertEqual(joint(three, three, 0, 1), ((5, ((0, 1), (0, 3), (0, 4), (1, 2)), (1, 1, 1, 1)), (1, 2)))
        self.assertEqual(bridged(three, two, 2, 0, 3), ((5, ((0, 1), (1, 2), (2, 3), (3, 4)), (1, 1, 3, 2)), 2))
        self.assertEqual(bridged(two, three, 0, 2, 1), ((5, ((0, 1), (0, 4), (2, 3), (3, 4)), (2, 1, 1, 1)), 1))
        self.assertRaises(Unfit, bridged, (24, tuple([(x, x + 1) for x in range(23)]), (1,) * 23), two, 0, 0, 1)

    def test_by_name(self):
        self.assertEqual(joint(one=self.two, other=self.two, a=1, b=1), ((3, ((0, 1), (1, 2)), (2, 2)), (1,)))
        self.assertEqual(bridged(one=self.two, other=self.two, a=1, b=1, most=9),
                         ((4, ((0, 1), (1, 3), (2, 3)), (2, 9, 2)), 1))

    def test_all_places_of_small_webs(self):
        for one in (PAIR, ROW, ROUND_5, KITE, self.three):
            for other in (PAIR, FORK, WIDE_FORK, FULL_4, self.three, STAR):
                for a in range(one[0]):
                    for b in range(other[0]):
                        self.check_joint(one, other, a, b)
                        self.check_bridged(one, other, a, b, 1 + (a + b) % 9)

    def check_joint(self, one, other, a, b):
        n = one[0]
        fresh = iter(range(n, n + other[0]))
        names = [a if x == b else next(fresh) for x in range(other[0])]
        web = put_together(n + other[0] - 1, one, other, names, {})
        told = [web[1].index(tuple(sorted((names[x], names[y])))) for x, y in other[1]]
        self.assertEqual(joint(one, other, a, b), (web, tuple(told)))
        self.assertIsNone(web_error(web))

    def check_bridged(self, one, other, a, b, most):
        n = one[0]
        names = range(n, n + other[0])
        web = put_together(n + other[0], one, other, names, {(a, n + b): most})
        self.assertEqual(bridged(one, other, a, b, most), (web, web[1].index((a, n + b))))
        self.assertIsNone(web_error(web))

    def test_drawn_webs(self):
        dice = Random(151)
        for _ in range(60):
            one, other = [bearing(some_web(dice, dice.randint(2, 11), dice.randint(0, 4)), dice, 9) for _ in range(2)]
            a, b = dice.randrange(one[0]), dice.randrange(other[0])
            self.check_joint(one, other, a, b)
            self.check_bridged(one, other, a, b, dice.randint(1, 9))

    def test_just_24_places_and_25(self):
        dice = Random(152)
        for many in range(2, 23):
            one = web_of(many, some_tree(dice, many, 3), 2)
            just = web_of(25 - many, some_tree(dice, 25 - many, 3))
            more = web_of(26 - many, some_tree(dice, 26 - many, 3))
            a, b = dice.randrange(many), dice.randrange(25 - many)
            self.check_joint(one, just, a, b)
            self.assertEqual(joint(one, just, a, b)[0][0], 24)
            self.assertRaises(Unfit, joint, one, more, a, b)
            self.assertRaises(Unfit, joint, more, one, b, a)
            self.assertRaises(Unfit, bridged, one, just, a, b, 1)
            if many < 22:
                just = web_of(24 - many, some_tree(dice, 24 - many, 3))
                self.check_bridged(one, just, a, 0, 9)
                self.assertEqual(bridged(one, just, a, 0, 9)[0][0], 24)
        self.assertRaises(Unfit, joint, path_web(24, 1), PAIR, 3, 0)
        self.assertRaises(Unfit, bridged, path_web(23, 1), PAIR, 3, 0, 1)
        self.check_bridged(path_web(22, 1), PAIR, 3, 0, 1)
        self.check_joint(path_web(23, 1), PAIR, 3, 0)

    def test_just_40_roads_and_41(self):
        # 36 and 4 roads, 36 and 5; with a road between, 36 and 3, 36 and 4; then 35 and 6, 24 and 16.
        full, board = full_web(9, 2), board_web(5, 7, 1)
        self.check_joint(full, ring_web(4, 9), 3, 2)
        self.assertEqual(len(joint(full, path_web(5, 1), 0, 0)[0][1]), 40)
        self.assertRaises(Unfit, joint, full, ring_web(5, 1), 3, 2)
        self.assertRaises(Unfit, joint, ring_web(5, 1), full, 3, 2)
        self.check_bridged(full, ring_web(3, 9), 3, 2, 4)
        self.assertEqual(len(bridged(full, path_web(4, 1), 0, 0, 1)[0][1]), 40)
        self.assertRaises(Unfit, bridged, full, ring_web(4, 1), 3, 2, 4)
        self.assertRaises(Unfit, bridged, ring_web(4, 1), full, 3, 2, 4)
        self.assertRaises(Unfit, joint, board, FULL_4, 0, 0)
        self.check_joint(board, ROUND_5, 11, 4)
        self.assertRaises(Unfit, bridged, board, ROUND_5, 0, 0, 1)
        self.check_bridged(board, ROW_5, 0, 0, 1)
        self.check_joint(board_web(4, 6, 1), board_web(4, 4, 1), 9, 0)
        self.assertRaises(Unfit, bridged, board_web(4, 6, 1), board_web(4, 4, 1), 9, 0, 1)

    def check_deeds(self, web, part, roads, barred, dice):
        """All deeds on roads of the part that are not barred: let in the web just as they are in the part."""
        for _ in range(5):
            standing = some_standing(web, dice)
            own = tuple([standing[roads[road]] for road in range(len(part[1]))])
            let = [(roads[road], by) for (road, by), _ in let_here(part, own) if road not in barred]
            mine = [roads[road] for road in range(len(part[1])) if road not in barred]
            self.assertEqual(sorted(let), [deed for deed, _ in let_here(web, standing) if deed[0] in mine])

    def test_deeds_away_from_the_joint(self):
        dice = Random(153)
        for one in SMALL_WEBS[1:]:
            for other in SMALL_WEBS[::3]:
                a, b = dice.randrange(one[0]), dice.randrange(other[0])
                at_a = [road for road, ends in enumerate(one[1]) if a in ends]
                at_b = [road for road, ends in enumerate(other[1]) if b in ends]
                web, others = joint(one, other, a, b)
                mine = [web[1].index(ends) for ends in one[1]]
                self.check_deeds(web, one, mine, at_a, dice)
                self.check_deeds(web, other, others, at_b, dice)
                web, _ = bridged(one, other, a, b, 3)
                mine = [web[1].index(ends) for ends in one[1]]
                others = [web[1].index((x + one[0], y + one[0])) for x, y in other[1]]
                self.check_deeds(web, one, mine, at_a, dice)
                self.check_deeds(web, other, others, at_b, dice)
