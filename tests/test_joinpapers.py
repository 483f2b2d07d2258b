"""[E5], [E6]: paper_holds."""

import unittest
from random import Random

from tests.samples import (FORK, FULL_4, GREAT, ODD_VALUES, PAIR, ROUND_5, ROW_5, STAR, every_standing)
from tests.walking import is_even_here, long_rows, place_sums, some_standing, with_bound
from unevenroads.joinpapers import paper_holds
from unevenroads.kinds import kind_of
from unevenroads.shapes import path_web, ring_web
from unevenroads.walls import is_near

BARE = (0, 0, 0, 0)
LAID = (1, 0, 0, 0)
NEAR = (1, 0, 0, 1, 1, 1)
FAR = (1, 0, 0, 0, 0, 0)


def holds(web, one, other, paper):
    """Whether the paper holds, in the words of [E5]; it has one of the three forms."""
    both = (one, other)
    if paper[0] == "even":
        return is_even_here(web, both[paper[1]]) and one != other
    if paper[0] == "near":
        return kind_of(web) == "parted" and is_near(web, both[paper[1]]) and not is_near(web, both[1 - paper[1]])
    numbers = [place_sums(web, standing).count(1) for standing in both]
    return kind_of(web) in ("path", "ring") and numbers == list(paper[1:]) and numbers[0] != numbers[1]


class PaperTest(unittest.TestCase):

    def refused(self, web, one, other, value):
        self.assertIs(paper_holds(web, one, other, value), False, value)

    def held(self, web, one, other, value):
        self.assertIs(paper_holds(web, one, other, value), True, value)

    def test_examples(self):
        told = [paper_holds(ROW_5, BARE, LAID, value) for value in
                (("even", 0), ("walls", 0, 2), ("even", 1), ("walls", 2, 0), ("near", 0), None)]
        self.assertEqual(told, [True, True, False, False, False, False])

    def test_by_name(self):
        self.assertIs(paper_holds(web=ROW_5, one=BARE, other=LAID, value=("even", 0)), True)

    def test_all_papers_of_small_webs(self):
        papers = [(word, side) for word in ("even", "near") for side in (0, 1)]
        papers.extend([("walls", a, b) for a in range(-1, 7) for b in range(-1, 7)])
        for web in [PAIR, ROW_5, ROUND_5, FORK, STAR, path_web(4, 1), ring_web(4, 1), with_bound(ROW_5, 0, 2)]:
            standings = every_standing(web)[::2 if web == ROUND_5 else 1]
            if len(standings) > 32:
                standings = [NEAR, FAR, (0, 0, 0, 1, 1, 1), (1,) * 6, (0,) * 6, (0, 1, 1, 0, 1, 0)]
            for one in standings:
                for other in standings:
                    for paper in papers:
                        self.assertIs(paper_holds(web, one, other, paper), holds(web, one, other, paper))

    def test_long_rows(self):
        dice = Random(3)
        for web in long_rows():
            one, other = some_standing(web, dice), some_standing(web, dice)
            numbers = [place_sums(web, standing).count(1) for standing in (one, other)]
            self.assertIs(paper_holds(web, one, other, ("walls", *numbers)), numbers[0] != numbers[1])
            self.refused(web, one, other, ("walls", numbers[0] + 1, numbers[1]))
            self.refused(web, one, one, ("walls", numbers[0], numbers[0]))

    def test_turned_about(self):
        self.held(ROW_5, LAID, BARE, ("even", 1))
        self.refused(ROW_5, LAID, BARE, ("even", 0))
        self.held(ROW_5, LAID, BARE, ("walls", 2, 0))
        self.refused(ROW_5, LAID, BARE, ("walls", 0, 2))
        self.held(STAR, NEAR, FAR, ("near", 0))
        self.refused(STAR, NEAR, FAR, ("near", 1))
        self.held(STAR, FAR, NEAR, ("near", 1))
        self.refused(STAR, FAR, NEAR, ("near", 0))
        for value in [(0, "even"), (2, 0, "walls"), ("walls", "even", 0), (1, "near")]:
            self.refused(ROW_5, LAID, BARE, value)

    def test_of_one_and_itself_there_is_no_paper(self):
        for web in (ROW_5, ROUND_5, FORK, FULL_4, PAIR):
            for standing in every_standing(web):
                for value in [("even", 0), ("even", 1), ("near", 0), ("near", 1)]:
                    self.refused(web, standing, standing, value)
        self.refused(STAR, NEAR, NEAR, ("near", 0))
        self.held(PAIR, (3,), (4,), ("even", 0))
        self.held(PAIR, (3,), (4,), ("even", 1))

    def test_two_near_standings_or_none(self):
        self.refused(STAR, NEAR, (0, 0, 0, 1, 1, 1), ("near", 0))
        self.refused(STAR, (1, 1, 1, 1, 1, 1), FAR, ("near", 0))
        self.held(STAR, NEAR, (0,) * 6, ("near", 0))
        self.held(STAR, NEAR, (0,) * 6, ("even", 1))

    def test_the_wrong_kind_of_web(self):
        self.refused(path_web(4, 1), (0, 0, 0), (1, 0, 0), ("walls", 0, 2))
        self.refused(ring_web(4, 1), (0, 0, 0, 0), (1, 0, 0, 0), ("walls", 0, 2))
        self.refused(with_bound(ROW_5, 0, 2), BARE, LAID, ("walls", 0, 2))
        self.held(ROW_5, BARE, LAID, ("walls", 0, 2))
        self.refused(FORK, BARE, LAID, ("walls", 0, 2))
        self.refused(STAR, (0,) * 6, FAR, ("walls", 0, 2))
        # A path of five places has an elder tree, but its kind is "path".
        self.assertTrue(is_near(ROW_5, (0, 1, 0, 1)))
        self.refused(ROW_5, (0, 1, 0, 1), LAID, ("near", 0))
        self.refused(with_bound(STAR, 0, 2), NEAR, FAR, ("near", 0))
        self.refused(FORK, BARE, LAID, ("near", 0))

    def test_no_tuples(self):
        for value in [["even", 0], ["walls", 0, 2], {"even": 0}, "even", ("even", [0]), ("walls", [0], 2),
                      ("walls", (0, 2)), (["even"], 0), (("even",), 0), ("even", (0,))]:
            self.refused(ROW_5, BARE, LAID, value)

    def test_other_lengths_and_words(self):
        for value in [("even",), ("even", 0, 0), ("walls",), ("walls", 0), ("walls", 0, 2, 2), ("near",), (),
                      ("walls", 2), ("Even", 0), ("", 0), ("rest", 0), ("even ", 0), (None, 0), (0, 0), ("near", 0, 1)]:
            self.refused(ROW_5, BARE, LAID, value)
            self.refused(STAR, (0,) * 6, NEAR, value)

    def test_other_numbers(self):
        for wrong in [2, -1, 3, GREAT, -GREAT, "0", None, (), [], {}, True, False]:
            self.refused(ROW_5, BARE, LAID, ("even", wrong))
            self.refused(STAR, FAR, NEAR, ("near", wrong))
            self.refused(STAR, NEAR, FAR, ("near", wrong))
        for wrong in [1, 3, 4, -2, GREAT, "2", None, (), [], {}, True, False]:
            self.refused(ROW_5, BARE, LAID, ("walls", 0, wrong))
            self.refused(ROW_5, BARE, LAID, ("walls", wrong, 2))

    def test_false_is_not_nought_and_true_not_one(self):
        self.refused(ROW_5, BARE, LAID, ("even", False))
        self.refused(ROW_5, LAID, BARE, ("even", True))
        self.refused(ROW_5, BARE, LAID, ("walls", False, 2))
        self.refused(STAR, NEAR, FAR, ("near", False))
        self.refused(STAR, FAR, NEAR, ("near", True))

    def test_odd_values(self):
        for web, one, other in [(ROW_5, BARE, LAID), (ROUND_5, (0,) * 5, (1, 0, 0, 0, 0)), (STAR, NEAR, (0,) * 6)]:
            for value in ODD_VALUES:
                for paper in (value, ("even", value), ("near", value), ("walls", value, 2), ("walls", 0, value),
                              (value, 1), (value, 0, 2)):
                    right = [("walls", 0, 2), ("even", 0)] if web != STAR else [("near", 0), ("even", 1)]
                    plain = [type(item) for item in paper[1:]] if isinstance(paper, tuple) else []
                    self.assertIs(paper_holds(web, one, other, paper), paper in right and bool not in plain)
