"""[E1], [E3] to [E6]: class_of, joined, way_between; [A2] (a), (b), (c), (e) and (f)."""

import unittest
from itertools import combinations
from random import Random
from time import perf_counter

from tests.samples import (FORK, FULL_4, KITE, PAIR, ROUND_5, ROW_5, SMALL_WEBS, STAR, every_standing, every_tree,
                           every_web, has, is_parted, mixed, web_of)
from tests.walking import (all_classes, bearing, fault_along, great_webs, is_even_here, long_rows, neighbours_of,
                           parted_by, place_sums, small_rows, some_pairing, some_parted, some_standing, some_web,
                           with_bound)
from unevenroads.errors import NotJoined
from unevenroads.joining import class_of, joined, way_between
from unevenroads.joinpapers import paper_holds
from unevenroads.renamed import renamed_standing, renamed_web
from unevenroads.shapes import board_web, full_web, path_web, ring_web
from unevenroads.walls import is_near
from unevenroads.ways import end_of, turned

WIDE = with_bound(ROW_5, 3, 2)


def sort(web, standing):
    """What class_of tells, in the words of [E3]."""
    if is_even_here(web, standing):
        return ("even",)
    plain = web[0] > 4 and max(web[2]) == 1
    if plain and max(has(web)) < 3:
        return ("walls", place_sums(web, standing).count(1))
    if plain and is_parted(web) and is_near(web, standing):
        return ("near",)
    return ("rest",)


def some_small_webs():
    """Small webs of all kinds, bearing 1 or more."""
    webs = SMALL_WEBS + [web for n in (2, 3, 4) for web in every_web(n)] + every_web(5)[5::13]
    webs.extend([bearing(web, Random(at), 3) for at, web in enumerate(every_web(4))])
    webs.extend([web_of(n, roads) for n, step in ((5, 9), (6, 60), (7, 900)) for roads in every_tree(n)[::step]])
    return webs + small_rows()[:8]


class JoiningTest(unittest.TestCase):

    def check_pair(self, web, one, other, right):
        """Whether a way or a paper is told, as it should."""
        self.assertIs(joined(web, one, other), right)
        try:
            way = way_between(web, one, other)
        except NotJoined as error:
            self.assertFalse(right, (web, one, other))
            self.assertIs(paper_holds(web, one, other, error.paper), True)
        else:
            self.assertTrue(right, (web, one, other))
            self.assertEqual(fault_along(web, one, way), other)
            self.assertEqual(fault_along(web, other, turned(way)), one)

    def test_examples(self):
        self.assertEqual(class_of(ROW_5, (0, 1, 0, 1)), ("walls", 4))
        self.assertEqual(class_of(ROW_5, (1, 0, 0, 0)), ("walls", 2))
        self.assertEqual(class_of(ROW_5, (0, 0, 0, 0)), ("even",))
        self.assertEqual(class_of(STAR, (1, 0, 0, 1, 1, 1)), ("near",))
        self.assertEqual(class_of(WIDE, (0, 1, 0, 1)), ("rest",))
        self.assertIs(joined(WIDE, (0, 1, 0, 1), (0, 0, 0, 2)), True)
        self.assertIs(joined(ROW_5, (0, 1, 0, 1), (1, 0, 0, 0)), False)
        self.assertIs(joined(ROW_5, (0, 0, 0, 0), (0, 0, 0, 0)), True)
        self.assertIs(joined(STAR, (1, 0, 0, 0, 0, 0), (1, 1, 1, 1, 1, 1)), True)
        self.assertIs(joined(STAR, (1, 0, 0, 0, 0, 0), (0, 0, 0, 1, 1, 1)), False)

    def test_examples_of_ways(self):
        self.assertEqual(end_of(ROW_5, (1, 0, 0, 0), way_between(ROW_5, (1, 0, 0, 0), (0, 1, 1, 1))), (0, 1, 1, 1))
        self.assertEqual(way_between(ROW_5, (1, 0, 0, 0), (1, 0, 0, 0)), ())
        for web, one, other, paper in [(ROW_5, (0, 1, 0, 1), (1, 0, 0, 0), ("walls", 4, 2)),
                                       (STAR, (1, 0, 0, 0, 0, 0), (1, 0, 0, 1, 1, 1), ("near", 1)),
                                       (STAR, (1, 0, 0, 1, 1, 1), (1, 0, 0, 0, 0, 0), ("near", 0)),
                                       (WIDE, (0, 0, 0, 0), (1, 0, 0, 0), ("even", 0)),
                                       (WIDE, (1, 0, 0, 0), (0, 0, 0, 0), ("even", 1))]:
            with self.assertRaises(NotJoined) as caught:
                way_between(web, one, other)
            self.assertEqual(caught.exception.paper, paper)

    def test_by_name(self):
        self.assertEqual(class_of(web=ROW_5, standing=(0, 1, 0, 1)), ("walls", 4))
        self.assertIs(joined(web=ROW_5, one=(0, 1, 0, 1), other=(1, 0, 0, 0)), False)
        self.assertEqual(fault_along(FORK, (1, 0, 0, 1), way_between(web=FORK, one=(1, 0, 0, 1), other=(0, 0, 0, 1))),
                         (0, 0, 0, 1))

    def test_all_deeds_of_small_webs(self):
        for web in some_small_webs():
            sorts = []
            for one_class in all_classes(web):
                told = set([class_of(web, standing) for standing in one_class])
                self.assertEqual(told, {sort(web, one_class[0])})
                if len(one_class) > 1:
                    sorts.extend(told)
                    self.assertNotIn(("even",), told)
                else:
                    # A standing is left by no deed exactly if it is even.
                    self.assertEqual(told, {("even",)})
            self.assertEqual(len(set(sorts)), len(sorts), web)

    def test_ways_or_papers_between_all_standings(self):
        for web in [PAIR, ROW_5, ROUND_5, FORK, FULL_4, path_web(3, 2), path_web(4, 1), ring_web(3, 1), ring_web(4, 1),
                    board_web(1, 3, 1), with_bound(path_web(5, 1), 1, 2)]:
            number = {}
            for at, one_class in enumerate(all_classes(web)):
                number.update({standing: at for standing in one_class})
            for one in number:
                for other in number:
                    self.check_pair(web, one, other, number[one] == number[other])

    def test_ways_or_papers_of_some_standings_of_small_webs(self):
        dice = Random(11)
        for web in some_small_webs() + [STAR, KITE]:
            number = {}
            for at, one_class in enumerate(all_classes(web)):
                number.update({standing: at for standing in one_class})
            some = dice.sample(sorted(number), min(len(number), 7))
            for one in some:
                for other in some:
                    self.check_pair(web, one, other, number[one] == number[other])

    def test_rows_of_any_number_of_walls(self):
        dice = Random(12)
        for web in long_rows():
            for number in range(0, web[0] + 1, 2):
                some = [self.with_number(web, number, dice) for _ in range(2)]
                for standing in some:
                    told = ("even",) if number in (0, web[0]) else ("walls", number)
                    self.assertEqual(class_of(web, standing), told)
                self.check_pair(web, some[0], some[1], number not in (0, web[0]) or some[0] == some[1])
                if number:
                    self.check_pair(web, some[0], self.with_number(web, number - 2, dice), False)

    def with_number(self, web, number, dice):
        """A standing of a row with so many walls."""
        return parted_by(web, dice.sample(range(web[0]), number), dice.randint(0, 1))

    def test_trees_with_an_elder_tree(self):
        dice = Random(13)
        for spots in (4, 5, 8, 12):
            web = some_parted(dice, spots)
            near = max([some_pairing(web, dice, spots) for _ in range(200)], key=sum)
            nears = [near]
            for one in nears:
                nears.extend([other for other in neighbours_of(web, one) if other not in nears])
            self.assertEqual(len(nears), web[0])
            rest = [some_pairing(web, dice, 2), some_standing(web, dice), some_standing(web, dice)]
            for one in nears[:6] + rest:
                for other in nears[-6:] + rest:
                    even = is_even_here(web, one) or is_even_here(web, other)
                    right = one == other or not even and (one in nears) == (other in nears)
                    self.check_pair(web, one, other, right)

    def test_one_road_bears_two(self):
        dice = Random(14)
        for web in small_rows() + [STAR, FORK, some_parted(dice, 6)]:
            for road in range(len(web[1])):
                wide = with_bound(web, road, 2)
                some = [standing for standing in [some_standing(wide, dice) for _ in range(6)]
                        if not is_even_here(wide, standing)]
                for one in some:
                    self.assertEqual(class_of(wide, one), ("rest",))
                    self.check_pair(wide, some[0], one, True)

    def test_webs_of_two_three_and_four_places(self):
        for bears in (1, 2, 9):
            web = (2, ((0, 1),), (bears,))
            for one in range(bears + 1):
                self.assertEqual(class_of(web, (one,)), ("even",))
                for other in range(bears + 1):
                    self.check_pair(web, (one,), (other,), one == other)
        for n in (3, 4):
            for web in every_web(n):
                for standing in every_standing(web):
                    self.assertIn(class_of(web, standing), [("even",), ("rest",)])

    def test_drawn_webs(self):
        dice = Random(15)
        for at in range(60):
            n = dice.choice((5, 6, 9, 15, 24))
            web = some_web(dice, n, dice.choice((0, 1, 3, 9, 17)))
            if at % 2:
                web = bearing(web, dice, 9)
            some = [some_standing(web, dice), some_standing(web, dice), some_pairing(web, dice, 3)]
            some.append((0,) * len(web[1]))
            for one, other in combinations(some, 2):
                right = one == other or sort(web, one) == sort(web, other) != ("even",)
                self.check_pair(web, one, other, right)
                self.check_pair(web, other, one, right)

    def test_no_call_takes_long(self):
        for web in great_webs():
            one = (8,) + (9,) * (len(web[1]) - 1)
            begin = perf_counter()
            way = way_between(web, one, one[::-1])
            self.assertLess(perf_counter() - begin, 4)
            self.assertEqual(fault_along(web, one, way), one[::-1])

    def test_joined_goes_over_to_a_third(self):
        for web in (ROW_5, ROUND_5, FORK, path_web(3, 2)):
            some = every_standing(web)[::3]
            for one in some:
                self.assertIs(joined(web, one, one), True)
                for other in some:
                    self.assertIs(joined(web, one, other), joined(web, other, one))
                    for third in some:
                        if joined(web, one, other) and joined(web, other, third):
                            self.assertIs(joined(web, one, third), True)

    def test_new_names(self):
        dice = Random(16)
        for web in small_rows()[:4] + [STAR, FORK, KITE]:
            for names in mixed(web[0], 4):
                standing = some_standing(web, dice)
                other = renamed_standing(web, names, standing)
                self.assertEqual(class_of(renamed_web(web, names)[0], other), class_of(web, standing))


class AnySizeTest(unittest.TestCase):
    """What [A2] tells of webs of any size."""

    def uneven(self, web, dice, many):
        drawn = [some_standing(web, dice) for _ in range(many)]
        return [standing for standing in drawn if not is_even_here(web, standing)]

    def test_two_loads_on_one_road_join_all_uneven_standings(self):
        dice = Random(21)
        for at in range(40):
            web = some_web(dice, dice.choice((3, 4, 5, 9, 24)), dice.choice((0, 1, 5, 17)))
            web = with_bound(web, dice.randrange(len(web[1])), dice.choice((2, 9)))
            some = self.uneven(web, dice, 4)
            for one in some:
                self.assertIs(joined(web, some[0], one), True)

    def test_where_each_road_bears_one(self):
        # All uneven standings are joined exactly if the web is no path or ring of five places or more, and no tree
        # that comes of another one of two roads or more.
        dice = Random(22)
        webs = [web for n in (3, 4) for web in every_web(n)] + every_web(5)[::17] + small_rows()[:6]
        webs.extend([web_of(n, roads) for n, step in ((5, 9), (6, 60), (7, 800)) for roads in every_tree(n)[::step]])
        webs.append(some_parted(dice, 4))
        for web in webs:
            uneven = [one_class for one_class in all_classes(web) if len(one_class) > 1]
            row = max(has(web)) < 3 and web[0] > 4
            parted = web[0] > 4 and is_parted(web)
            self.assertEqual(len(uneven) == 1, not row and not parted, web)
            if parted and not row:
                self.assertEqual(len(uneven), 2)

    def test_full_webs_and_even_ones_alone(self):
        # Of ordinary webs of laid roads: all but the regular ones are joined.
        dice = Random(23)
        for n in range(3, 10):
            web = full_web(n, 1)
            for one in self.uneven(web, dice, 5) + [web[2], (0,) * len(web[1])]:
                for other in self.uneven(web, dice, 5):
                    self.assertIs(joined(web, one, other), not is_even_here(web, one))

    def test_a_way_or_a_paper_but_never_both(self):
        for web in (ROW_5, ROUND_5, FORK, path_web(3, 2), PAIR):
            for one in every_standing(web):
                for other in every_standing(web):
                    papers = [("even", side) for side in (0, 1)] + [("near", side) for side in (0, 1)]
                    papers.extend([("walls", a, b) for a in range(6) for b in range(6)])
                    held = [paper for paper in papers if paper_holds(web, one, other, paper)]
                    self.assertEqual(held == [], joined(web, one, other))
