"""[A10]: renamed_web, renamed_standing; [A11] and [C6] as far as they speak of new names."""

import unittest
from itertools import permutations

from tests.samples import PAIR, ROW, SMALL_WEBS, STAR, every_standing, mixed
from unevenroads.kinds import kind_of
from unevenroads.renamed import renamed_standing, renamed_web
from unevenroads.shapes import ring_web
from unevenroads.standings import is_even, standing_error, sums_of
from unevenroads.webs import web_error


def names_for(web):
    """All names for a small web, some for a larger one."""
    return list(permutations(range(web[0]))) if web[0] < 5 else mixed(web[0], 12)


def back(names):
    """The names that take back these names."""
    return tuple([names.index(x) for x in range(len(names))])


class RenamedTest(unittest.TestCase):

    def test_examples(self):
        web = (4, ((0, 2), (1, 2), (1, 3)), (1, 1, 2))
        self.assertEqual(renamed_web(ROW, (0, 2, 1, 3)), (web, (0, 1, 2)))
        self.assertEqual(renamed_standing(ROW, (0, 2, 1, 3), (1, 0, 2)), (1, 0, 2))
        web = (4, ((0, 1), (1, 2), (2, 3)), (2, 1, 1))
        self.assertEqual(renamed_web(ROW, (3, 2, 1, 0)), (web, (2, 1, 0)))
        self.assertEqual(renamed_standing(ROW, (3, 2, 1, 0), (1, 0, 2)), (2, 0, 1))

    def test_names_that_do_not_undo_themselves(self):
        web = (4, ((0, 2), (0, 3), (1, 3)), (2, 1, 1))
        self.assertEqual(renamed_web(ROW, (1, 3, 0, 2)), (web, (2, 1, 0)))
        self.assertEqual(renamed_standing(ROW, (1, 3, 0, 2), (1, 0, 2)), (2, 0, 1))
        web = (4, ((0, 1), (0, 3), (2, 3)), (1, 1, 2))
        self.assertEqual(renamed_web(ROW, (1, 0, 3, 2)), (web, (0, 1, 2)))
        web = (4, ((0, 2), (0, 3), (1, 2)), (1, 2, 1))
        self.assertEqual(renamed_web(ROW, (1, 2, 0, 3)), (web, (1, 2, 0)))
        self.assertEqual(renamed_standing(ROW, (1, 2, 0, 3), (1, 0, 2)), (0, 2, 1))

    def test_by_name(self):
        self.assertEqual(renamed_web(web=PAIR, names=(1, 0)), (PAIR, (0,)))
        self.assertEqual(renamed_standing(web=PAIR, names=(1, 0), standing=(7,)), (7,))

    def test_each_road_bears_what_it_did(self):
        for web in SMALL_WEBS + [ring_web(24, 3)]:
            for names in names_for(web):
                made, order = renamed_web(web, names)
                self.assertIsNone(web_error(made))
                self.assertEqual(sorted(order), list(range(len(web[1]))))
                for road, ends in enumerate(made[1]):
                    a, b = web[1][order[road]]
                    self.assertEqual(ends, tuple(sorted([names[a], names[b]])))
                    self.assertEqual(made[2][road], web[2][order[road]])
                self.assertEqual(kind_of(made), kind_of(web))

    def test_renamed_back(self):
        for web in SMALL_WEBS:
            for names in names_for(web):
                made, _ = renamed_web(web, names)
                self.assertEqual(renamed_web(made, back(names))[0], web)
                for standing in every_standing(web)[:40]:
                    told = renamed_standing(web, names, standing)
                    self.assertEqual(renamed_standing(made, back(names), told), standing)

    def test_sums(self):
        for web in SMALL_WEBS:
            for names in names_for(web)[:8]:
                made, _ = renamed_web(web, names)
                for standing in every_standing(web):
                    told = renamed_standing(web, names, standing)
                    self.assertIsNone(standing_error(made, told))
                    sums = sums_of(web, standing)
                    self.assertEqual([sums_of(made, told)[names[x]] for x in range(web[0])], list(sums))
                    self.assertEqual(is_even(made, told), is_even(web, standing))

    def test_star(self):
        made, order = renamed_web(STAR, (6, 5, 4, 3, 2, 1, 0))
        self.assertEqual(made[1], ((0, 3), (0, 6), (1, 4), (1, 6), (2, 5), (2, 6)))
        self.assertEqual(order, (5, 2, 4, 1, 3, 0))
