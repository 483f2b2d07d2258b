"""[C1] to [C3]: kind_of, row_of; [C6] as far as it speaks of kinds."""

import unittest

from tests.samples import (FORK, FULL_4, KITE, PAIR, ROUND_5, ROW, ROW_5, STAR, every_tree, every_web, has, is_parted,
                           mixed, web_of)
from unevenroads.errors import Unfit
from unevenroads.kinds import kind_of, row_of
from unevenroads.parted import elder_tree
from unevenroads.renamed import renamed_web
from unevenroads.shapes import board_web, full_web, path_web, ring_web


def kind(web):
    """The kind, in the words of [C2]."""
    n, roads, most = web
    applies = [
        ("pair", n == 2), ("wide", max(most) > 1), ("small", n in (3, 4)),
        ("path", len(roads) == n - 1 and max(has(web)) < 3), ("ring", set(has(web)) == {2}),
        ("parted", is_parted(web)), ("meeting", True),
    ]
    return [word for word, fits in applies if fits][0]


class KindTest(unittest.TestCase):

    def test_examples(self):
        self.assertEqual(kind_of(ROW_5), "path")
        self.assertEqual(kind_of(STAR), "parted")
        self.assertEqual(kind_of(web=FORK), "meeting")
        self.assertEqual(kind_of(ROW_5[:2] + ((1, 1, 2, 1),)), "wide")
        self.assertEqual(kind_of((2, ((0, 1),), (9,))), "pair")
        self.assertEqual(kind_of((3, ((0, 1), (1, 2)), (1, 1))), "small")
        self.assertEqual(kind_of(ROUND_5), "ring")
        self.assertEqual(kind_of((4, ((0, 1), (0, 3), (1, 2), (2, 3)), (1,) * 4)), "small")
        self.assertEqual(kind_of((4, ((0, 1), (0, 3), (1, 2), (2, 3)), (2,) * 4)), "wide")

    def test_paths_and_rings(self):
        for n in range(2, 25):
            self.assertEqual(kind_of(path_web(n, 1)), "pair" if n == 2 else "small" if n < 5 else "path")
            self.assertEqual(kind_of(path_web(n, 2)), "pair" if n == 2 else "wide")
            if n > 2:
                self.assertEqual(kind_of(ring_web(n, 1)), "small" if n < 5 else "ring")
                self.assertEqual(kind_of(ring_web(n, 9)), "wide")
        self.assertEqual(kind_of(PAIR[:2] + ((1,),)), "pair")
        self.assertEqual(kind_of(full_web(3, 1)), "small")
        self.assertEqual(kind_of(FULL_4), "small")

    def test_sides_of_which_each_place_has_two_roads(self):
        for roads, word in [
            ([(0, 3), (0, 4), (0, 5), (3, 1), (4, 2), (5, 6)], "parted"),
            ([(0, 3), (0, 4), (0, 5), (3, 1), (4, 2), (5, 6), (6, 7)], "meeting"),
            ([(0, 3), (0, 4), (0, 5), (3, 1), (4, 2), (5, 6), (5, 7)], "meeting"),
            ([(0, 3), (0, 4), (0, 5), (3, 1), (4, 2), (5, 6), (1, 7)], "meeting"),
            ([(0, 3), (0, 4), (0, 5), (3, 1), (4, 2), (5, 6), (1, 7), (7, 8)], "parted"),
            ([(0, 3), (0, 4), (0, 5), (3, 1), (4, 2), (5, 6), (1, 6)], "meeting"),
            ([(0, 1), (0, 2), (0, 3), (0, 4)], "meeting"),
        ]:
            n = max([max(ends) for ends in roads]) + 1
            web = web_of(n, roads)
            for names in mixed(n, 20):
                self.assertEqual(kind_of(renamed_web(web, names)[0]), word)

    def test_all_trees(self):
        found = []
        for n in (3, 4, 5, 6, 7):
            for roads in every_tree(n):
                web = web_of(n, roads)
                found.append(kind_of(web))
                self.assertEqual(found[-1], kind(web))
        self.assertEqual(sorted(set(found)), ["meeting", "parted", "path", "small"])

    def test_all_webs_of_five_places_and_fewer(self):
        for n in (2, 3, 4, 5):
            for web in every_web(n):
                self.assertEqual(kind_of(web), kind(web))

    def test_one_road_bears_one_more(self):
        for web in [ROW_5, ROUND_5, STAR, FORK, FULL_4, path_web(3, 1), ring_web(4, 1), board_web(2, 4, 1)]:
            for road in range(len(web[1])):
                most = list(web[2])
                most[road] += 1
                self.assertEqual(kind_of(web[:2] + (tuple(most),)), "wide")

    def test_new_names(self):
        for web in [ROW_5, ROUND_5, STAR, FORK, FULL_4, KITE]:
            for names in mixed(web[0], 20):
                self.assertEqual(kind_of(renamed_web(web, names)[0]), kind_of(web))


class RowTest(unittest.TestCase):

    def test_examples(self):
        self.assertEqual(row_of(ROW_5), (0, 1, 2, 3, 4))
        self.assertEqual(row_of((4, ((0, 2), (1, 2), (1, 3)), (1, 5, 1))), (0, 2, 1, 3))
        self.assertEqual(row_of(web=ROUND_5), (0, 1, 2, 3, 4))
        self.assertEqual(row_of((3, ((0, 1), (0, 2), (1, 2)), (1, 1, 1))), (0, 1, 2))
        self.assertRaises(Unfit, row_of, FORK)

    def test_the_lesser_end_is_first(self):
        self.assertEqual(row_of(web_of(4, [(3, 0), (0, 2), (2, 1)])), (1, 2, 0, 3))
        self.assertEqual(row_of(web_of(4, [(0, 1), (0, 2), (2, 3)], 9)), (1, 0, 2, 3))
        self.assertEqual(row_of(web_of(2, [(0, 1)], 5)), (0, 1))

    def test_the_lesser_neighbour_is_next(self):
        self.assertEqual(row_of(web_of(4, [(0, 2), (2, 1), (1, 3), (3, 0)])), (0, 2, 1, 3))
        self.assertEqual(row_of(web_of(5, [(0, 4), (4, 1), (1, 2), (2, 3), (3, 0)], 2)), (0, 3, 2, 1, 4))

    def test_paths_and_rings(self):
        for n in range(2, 25):
            for names in mixed(n, 6):
                path = renamed_web(path_web(n, 1 + n % 9), names)[0]
                self.assertEqual(row_of(path), min([names, names[::-1]], key=lambda row: row[0]))
                if n > 2:
                    ring = renamed_web(ring_web(n, 1 + n % 9), names)[0]
                    at = names.index(0)
                    row = names[at:] + names[:at]
                    self.assertEqual(row_of(ring), min(row, (0,) + row[:0:-1]))

    def test_other_webs(self):
        for web in [STAR, FORK, FULL_4, KITE, board_web(1, 3, 1), board_web(2, 3, 1), full_web(9, 9)]:
            self.assertRaises(Unfit, row_of, web)

    def test_all_webs_of_five_places_and_fewer(self):
        for n in (2, 3, 4, 5):
            for web in every_web(n):
                if max(has(web)) > 2:
                    self.assertRaises(Unfit, row_of, web)
                else:
                    row = row_of(web)
                    self.assertEqual(sorted(row), list(range(n)))
                    for x, y in zip(row, row[1:]):
                        self.assertIn((min(x, y), max(x, y)), web[1])

    def test_what_roads_bear_is_not_looked_at(self):
        self.assertEqual(row_of(ROW), (0, 1, 2, 3))
        self.assertRaises(Unfit, row_of, FORK[:2] + ((9,) * 4,))
        self.assertEqual(elder_tree(ROW_5[:2] + ((9, 1, 2, 3),)), elder_tree(ROW_5))
