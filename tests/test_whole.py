"""[A1], [A2]: what holds of all webs, (a) to (f), gone through by all deeds; and how all that is told agrees."""

import unittest
from itertools import combinations
from math import comb
from random import Random

from tests.samples import every_standing, every_tree, every_web, has, is_parted, web_of
from tests.walking import (all_classes, bearing, is_even_here, let_here, long_rows, place_sums, some_parted,
                           some_small_webs, some_standing, some_web)
from unevenroads import (benches, chances, classes, closed, evens, games, joining, joinpapers, kept, kinds,
                         logs, meandraws, shells, spheres, walldeeds, wishes)
from unevenroads.shapes import full_web


def is_path_or_ring(web):
    """Whether no place has three roads."""
    return max(has(web)) < 3


class WholeTest(unittest.TestCase):

    def uneven_classes(self, web):
        """The classes of uneven standings: each even one is alone."""
        found = all_classes(web)
        for one_class in found:
            evens_here = [one for one in one_class if is_even_here(web, one)]
            self.assertTrue(evens_here == [] or one_class == evens_here and len(one_class) == 1)
        return [one_class for one_class in found if not is_even_here(web, one_class[0])]

    def test_a_even_standings_are_left_by_no_deed(self):
        for web in some_small_webs():
            for standing in every_standing(web):
                self.assertIs(let_here(web, standing) == [], len(set(place_sums(web, standing))) == 1)

    def test_b_webs_with_a_road_that_bears_two(self):
        dice = Random(211)
        webs = [bearing(web, dice, 2) for n in (3, 4) for web in every_web(n)] + [
            web[:2] + (web[2][:road] + (2,) + web[2][road + 1:],)
            for web in every_web(5)[::40] + [web_of(n, roads) for n in (5, 6) for roads in every_tree(n)[::50]]
            for road in (0, len(web[1]) - 1)]
        for web in webs:
            if max(web[2]) > 1:
                self.assertEqual(len(self.uneven_classes(web)), 1, web)

    def test_c_webs_whose_roads_bear_one(self):
        webs = [web for n in (3, 4) for web in every_web(n)] + every_web(5)[::20]
        webs.extend([web_of(n, roads) for n, step in ((5, 4), (6, 50), (7, 500)) for roads in every_tree(n)[::step]])
        for web in webs:
            apart = web[0] > 4 and (is_path_or_ring(web) or is_parted(web))
            self.assertIs(len(self.uneven_classes(web)) < 2, not apart, web)

    def test_d_full_webs(self):
        # How many webs of laid roads, in which all places have as many, there are: of 3, 4 and 5 places.
        for n, regular in ((3, 2), (4, 1 + 3 + 3 + 1), (5, 1 + 12 + 1)):
            web = full_web(n, 1)
            uneven = self.uneven_classes(web)
            self.assertEqual([len(one_class) for one_class in uneven], [2 ** comb(n, 2) - regular])
            for standing in every_standing(web)[::7]:
                degrees = place_sums(web, standing)
                for road, (a, b) in enumerate(web[1]):
                    let = [deed for deed, _ in let_here(web, standing) if deed[0] == road]
                    self.assertEqual(len(let), 1 if degrees[a] != degrees[b] else 0)

    def test_e_rows_and_trees_of_elder_trees(self):
        dice = Random(212)
        for web in [row for row in long_rows() if row[0] < 10]:
            sums = [{place_sums(web, one).count(1) for one in one_class} for one_class in self.uneven_classes(web)]
            self.assertEqual([len(numbers) for numbers in sums], [1] * len(sums))
            self.assertEqual(len({min(numbers) for numbers in sums}), len(sums))
        for spots in (4, 5, 6):
            self.assertEqual(len(self.uneven_classes(some_parted(dice, spots))), 2)

    def test_f_a_way_or_a_paper_that_holds(self):
        dice = Random(213)
        for web in some_small_webs()[::2]:
            classes_here = all_classes(web)
            where = {one: at for at, one_class in enumerate(classes_here) for one in one_class}
            standings = sorted(where)
            for _ in range(20):
                one, other = dice.choice(standings), dice.choice(standings)
                papers = [("even", 0), ("even", 1), ("near", 0), ("near", 1)]
                papers.extend([("walls", a, b) for a, b in combinations(range(0, 10, 2), 2)])
                papers.extend([("walls", b, a) for a, b in combinations(range(0, 10, 2), 2)])
                right = [paper for paper in papers if joinpapers.paper_holds(web, one, other, paper)]
                self.assertIs(right == [], where[one] == where[other])
                self.assertIs(joining.joined(web, one, other), where[one] == where[other])

    def test_all_that_is_told_agrees(self):
        """What the modules tell of the same class, one from another."""
        dice = Random(214)
        for web in some_small_webs()[::3] + [some_web(dice, 7, 2), some_parted(dice, 5)]:
            standing = some_standing(web, dice)
            other = some_standing(web, dice)
            members = [one for one, _ in games.turns_of(web, standing, (standing,))] \
                if sum(spheres.spheres(web, standing)) <= 300 else []
            size = chances.long_run(web, standing)[1]
            self.assertEqual(sum(spheres.spheres(web, standing)), size)
            if members:
                self.assertEqual(len(members), size)
                self.assertIs(other in members, joining.joined(web, standing, other))
            way = spheres.least_way(web, standing, other)
            self.assertEqual(way, closed.closed_way(web, standing, other, ()))
            self.assertIs(way is None, wishes.wished(web, standing, other) is None)
            if kinds.kind_of(web) in ("path", "ring") and way is not None:
                self.assertEqual(walldeeds.wall_deeds(web, standing, other), len(way))
            if size <= 40 and way is not None:
                self.assertIs(meandraws.mean_draws(web, standing, other) == (0, 1), standing == other)
            bench = benches.Bench()
            bench.add("x", web, standing)
            self.assertEqual((bench.size("x"), bench.joined("x", other)), (size, way is not None))
            self.assertEqual(logs.bench_behind(bench.log), bench)
            shell = shells.Shell()
            shell.say("do " + logs.log_text(bench.log)[:-1])
            self.assertEqual(shell.say("size x"), str(size))
            self.assertEqual(kept.Kept(web, standing).unlike == (), is_even_here(web, standing))
            if not is_even_here(web, standing):
                self.assertIn(size, [own for _, own in classes.uneven_classes(web)])
            else:
                self.assertIn(sum(place_sums(web, standing)) // web[0], [total for total, _ in evens.even_sums(web)])
