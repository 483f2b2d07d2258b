"""[C5]: meeting_paper, meeting_holds; [C6] as far as it speaks of papers."""

import unittest
from itertools import permutations

from tests.samples import (FORK, FULL_4, GREAT, KITE, ODD_VALUES, PAIR, ROUND_5, ROW, ROW_5, STAR, every_tree,
                           every_web, has, is_parted, least_steps, mixed, web_of)
from unevenroads.meets import meeting_holds, meeting_paper
from unevenroads.renamed import renamed_web
from unevenroads.shapes import board_web, full_web, path_web, ring_web

SIDES = ("sides", 0, 1)


def holds(web, place, reason):
    """Whether the paper holds, in the words of [C5]; place and all in reason being places."""
    if has(web)[place] < 3:
        return False
    if reason[0] == "round":
        row = reason[1]
        nexts = row[1:] + row[:1]
        beside = [(min(x, y), max(x, y)) in web[1] for x, y in zip(row, nexts)]
        return len(row) > 2 and len(set(row)) == len(row) and all(beside)
    one, other = reason[1:]
    return least_steps(web)[one][other] % 2 == 1 and has(web)[one] != 2 and has(web)[other] != 2


class MeetingPaperTest(unittest.TestCase):

    def test_examples(self):
        self.assertIsNone(meeting_paper(STAR))
        self.assertIsNone(meeting_paper(web=ROW_5))
        self.assertIs(meeting_holds(FORK, meeting_paper(FORK)), True)

    def check(self, web):
        paper = meeting_paper(web)
        if max(has(web)) < 3 or is_parted(web):
            self.assertIsNone(paper)
            return
        place, reason = paper
        self.assertIsInstance(paper, tuple)
        self.assertIsInstance(reason, tuple)
        self.assertTrue(holds(web, place, reason), (web, paper))
        self.assertIs(meeting_holds(web, paper), True)
        self.assertIs(meeting_holds(web=web, value=paper), True)

    def test_all_trees(self):
        for n in (3, 4, 5, 6, 7):
            for roads in every_tree(n):
                self.check(web_of(n, roads, 1 + n % 2))

    def test_all_webs_of_five_places_and_fewer(self):
        for n in (2, 3, 4, 5):
            for web in every_web(n):
                self.check(web)

    def test_larger_webs(self):
        tail = [(x, x + 1) for x in range(23)]
        for web in [full_web(9, 1), board_web(5, 8, 2), board_web(1, 23, 1), board_web(2, 20, 1), path_web(24, 3),
                    web_of(24, tail + [(0, 2)]), web_of(24, tail + [(21, 23)]), web_of(24, tail + [(10, 14)]),
                    web_of(24, tail + [(2, 7), (12, 20)])]:
            for names in mixed(web[0], 6):
                self.check(renamed_web(web, names)[0])

    def test_paths_and_rings(self):
        for n in range(3, 25):
            self.assertIsNone(meeting_paper(path_web(n, 1)))
            self.assertIsNone(meeting_paper(ring_web(n, 2)))
        self.assertIsNone(meeting_paper(PAIR))


class MeetingHoldsTest(unittest.TestCase):

    def refused(self, web, value):
        self.assertIs(meeting_holds(web, value), False, value)

    def test_examples(self):
        for value, right in [((0, ("sides", 0, 1)), True), ((0, ("sides", 4, 2)), True), ((3, ("sides", 0, 1)), False),
                             ((0, ("sides", 0, 4)), False), ((0, ("round", (0, 1, 2))), False)]:
            self.assertIs(meeting_holds(FORK, value), right)
        self.assertIs(meeting_holds(FULL_4, (2, ("round", (0, 3, 1)))), True)
        self.assertIs(meeting_holds(FULL_4, (2, ("round", (0, 3)))), False)
        self.assertIs(meeting_holds(FULL_4, [2, ("round", (0, 3, 1))]), False)

    def test_all_sides_papers(self):
        for web in [FORK, STAR, KITE, FULL_4, ROW, ROUND_5, PAIR, board_web(2, 3, 1)]:
            for place in range(web[0]):
                for one in range(web[0]):
                    for other in range(web[0]):
                        reason = ("sides", one, other)
                        self.assertIs(meeting_holds(web, (place, reason)), holds(web, place, reason))

    def test_all_round_papers(self):
        for web in [FORK, KITE, FULL_4, ROUND_5, PAIR, board_web(2, 3, 1)]:
            for many in range(web[0] + 1):
                for row in permutations(range(web[0]), many):
                    for place in range(web[0]):
                        reason = ("round", row)
                        self.assertIs(meeting_holds(web, (place, reason)), holds(web, place, reason))

    def test_places_that_come_twice(self):
        for row in [(0, 1, 0), (0, 1, 2, 0), (0, 1, 2, 0, 1, 2), (0, 1, 0, 1), (0, 0, 1), (0, 1, 2, 3, 1)]:
            self.refused(FULL_4, (0, ("round", row)))

    def test_no_tuples(self):
        for value in [[0, ("round", (0, 1, 2))], (0, ["round", (0, 1, 2)]), (0, ("round", [0, 1, 2])), (0, "round"),
                      {0: ("round", (0, 1, 2))}, (0, ("round", "012")), (0, ("round", {0: 1, 1: 2, 2: 3})),
                      [0, ["sides", 0, 1]], (0, ["sides", 0, 1])]:
            self.refused(FULL_4, value)

    def test_wrong_lengths_and_words(self):
        rows = (0, 1, 2)
        for value in [(0,), (0, SIDES, SIDES), (), (0, ()), (0, ("sides",)), (0, ("sides", 0)), (0, ("sides", 0, 1, 2)),
                      (0, ("round",)), (0, ("round", rows, rows)), (0, ("round", 0, 1)), (0, ("sides", rows)),
                      (0, ("sides", (0, 1))), (0, ("Sides", 0, 1)), (0, ("", rows)), (0, (None, rows)), (0, (0, 0, 1)),
                      (0, (["sides"], 0, 1)), (0, ({}, rows)), SIDES, ("round", rows)]:
            self.refused(FULL_4, value)
        self.assertIs(meeting_holds(FULL_4, (0, SIDES)), True)
        self.assertIs(meeting_holds(FULL_4, (0, ("round", rows))), True)

    def test_what_is_no_place(self):
        for wrong in [-1, -2, 4, GREAT, -GREAT, True, False, None, "0", "", (0,), [0], {}, ()]:
            for value in [(wrong, SIDES), (wrong, ("round", (0, 1, 2))),
                          (0, ("sides", wrong, 0)), (0, ("sides", 0, wrong)),
                          (0, ("sides", wrong, 1)), (0, ("sides", 1, wrong)), (0, ("round", (wrong, 2, 3))),
                          (0, ("round", (2, wrong, 3))), (0, ("round", (2, 3, wrong)))]:
                self.refused(FULL_4, value)

    def test_true_in_the_place_of_one(self):
        self.refused(FULL_4, (True, SIDES))
        self.refused(FULL_4, (0, ("sides", 0, True)))
        self.refused(FULL_4, (0, ("sides", False, 1)))
        self.refused(FULL_4, (0, ("round", (0, True, 2))))
        self.refused(FULL_4, (False, ("round", (0, 1, 2))))

    def test_odd_values(self):
        for web in (FORK, FULL_4, KITE):
            for value in ODD_VALUES + [(0, value) for value in ODD_VALUES] + [("sides", value) for value in ODD_VALUES]:
                right = value == (0, SIDES) and web != KITE or value == (0, ("round", (0, 1, 2))) and web == FULL_4
                self.assertIs(meeting_holds(web, value), right)

    def test_what_roads_bear_is_not_looked_at(self):
        for most in (1, 2, 9):
            web = FORK[:2] + ((most,) * 4,)
            self.assertIs(meeting_holds(web, (0, SIDES)), True)
            self.assertIs(meeting_holds(web, meeting_paper(web)), True)
            self.assertIsNone(meeting_paper(STAR[:2] + ((most,) * 6,)))

    def test_a_web_with_a_round_may_have_a_paper_of_sides(self):
        self.assertIs(meeting_holds(FULL_4, (3, ("sides", 1, 2))), True)
        self.assertIs(meeting_holds(KITE, (2, ("sides", 2, 4))), False)
        self.assertIs(meeting_holds(web_of(4, [(0, 1), (0, 2), (1, 2), (2, 3)]), (2, ("sides", 2, 3))), True)
