"""[B1], [B2]: deed_error, let_deeds, done; [B5] as far as it speaks of deeds."""

import unittest

from tests.samples import GREAT, KITE, ODD_VALUES, PAIR, ROW, SMALL_WEBS, WIDE_FORK, every_standing, mixed
from unevenroads.deeds import deed_error, done, let_deeds
from unevenroads.errors import Unfit
from unevenroads.renamed import renamed_standing, renamed_web
from unevenroads.standings import is_even, sums_of


def lets(web, standing, road, by):
    """Whether the standing lets the deed, in the words of [B1]."""
    a, b = web[1][road]
    sums = [sum([standing[k] for k, ends in enumerate(web[1]) if x in ends]) for x in (a, b)]
    return sums[0] != sums[1] and 0 <= standing[road] + by <= web[2][road]


class DeedErrorTest(unittest.TestCase):

    def check(self, standing, value, error):
        self.assertEqual(deed_error(ROW, standing, value), error)
        self.assertEqual(deed_error(web=ROW, standing=standing, value=value), error)
        if error is not None:
            self.assertRaises(Unfit, done, ROW, standing, value)
            with self.assertRaises(Unfit):
                done(web=ROW, standing=standing, deed=value)

    def test_examples(self):
        for value, error in [((1, 1), None), ((1, -1), "room"), ((0, -1), "alike"), ((1, 2), "by"), ((3, 1), "road"),
                             ((1, True), "form"), ([1, 1], "form")]:
            self.check((1, 0, 0), value, error)

    def test_form(self):
        for value in [(), (1,), (1, 1, 1), [1, 1], "11", {1: 1}, None, 1, (True, 1), (1, True), (False, 1), (1, None),
                      (None, 1), ("1", 1), (1, "1"), ((1,), 1), (1, [1]), ((1, 1),)]:
            self.check((1, 0, 0), value, "form")

    def test_road(self):
        for road in [3, 4, -1, -2, -3, GREAT, -GREAT]:
            for by in (1, -1):
                self.check((1, 0, 0), (road, by), "road")

    def test_by(self):
        for by in [0, 2, -2, GREAT, -GREAT]:
            self.check((1, 0, 0), (1, by), "by")

    def test_alike(self):
        self.check((1, 0, 0), (0, -1), "alike")
        self.check((1, 1, 1), (1, -1), "alike")
        for road in (0, 1, 2):
            self.check((0, 0, 0), (road, 1), "alike")

    def test_room(self):
        self.check((1, 0, 0), (1, -1), "room")
        self.check((1, 1, 1), (0, 1), "room")
        self.check((1, 1, 2), (2, 1), "room")
        self.check((1, 1, 2), (2, -1), None)
        self.check((1, 1, 0), (2, -1), "room")

    def test_two_faults_at_once(self):
        for value, error in [((9, True), "form"), ((True, 5), "form"), ((9, 5), "road"), ((-1, 0), "road"),
                             ((0, 2), "by"), ((0, 0), "by"), ((2, 9), "by"), ((0, 1), "alike"), ((2, -1), "alike")]:
            self.check((1, 0, 0), value, error)

    def test_odd_values(self):
        for value in ODD_VALUES + [(0,), (0, 1, 2), ROW, (1, 0, 0)]:
            self.assertIsNotNone(deed_error(ROW, (1, 0, 0), value))
            self.assertRaises(Unfit, done, ROW, (1, 0, 0), value)
            for deed in [(value, 1), (1, value)]:
                if deed == (1, 1) and value is not True:
                    continue
                self.assertIsNotNone(deed_error(ROW, (1, 0, 0), deed))
                self.assertRaises(Unfit, done, ROW, (1, 0, 0), deed)


class LetDeedsTest(unittest.TestCase):

    def test_examples(self):
        for standing, deeds in [((1, 0, 0), ((1, 1),)), ((1, 0, 2), ((1, 1),)),
                                ((1, 1, 1), ((0, -1), (2, -1), (2, 1))), ((1, 0, 1), ())]:
            self.assertEqual(let_deeds(ROW, standing), deeds)
            self.assertEqual(let_deeds(web=ROW, standing=standing), deeds)

    def test_a_pair_lets_nothing(self):
        for standing in every_standing(PAIR):
            self.assertEqual(let_deeds(PAIR, standing), ())

    def test_all_standings(self):
        for web in SMALL_WEBS:
            for standing in every_standing(web):
                roads = range(len(web[1]))
                wished = [(road, by) for road in roads for by in (-1, 1) if lets(web, standing, road, by)]
                self.assertEqual(let_deeds(web, standing), tuple(wished))
                self.assertEqual(wished == [], is_even(web, standing))
                for deed in [(road, by) for road in roads for by in (-1, 1)]:
                    self.assertEqual(deed_error(web, standing, deed) is None, deed in wished)


class DoneTest(unittest.TestCase):

    def test_examples(self):
        self.assertEqual(done(ROW, (1, 0, 0), (1, 1)), (1, 1, 0))
        self.assertEqual(done(ROW, (1, 1, 1), (2, 1)), (1, 1, 2))
        self.assertEqual(done(web=ROW, standing=(1, 1, 1), deed=(2, -1)), (1, 1, 0))
        self.assertRaises(Unfit, done, ROW, (1, 0, 0), (0, -1))

    def test_done_and_its_contrary_lead_back(self):
        for web in SMALL_WEBS:
            for standing in every_standing(web):
                for road, by in let_deeds(web, standing):
                    behind = done(web, standing, (road, by))
                    self.assertEqual([load for k, load in enumerate(behind) if k != road],
                                     [load for k, load in enumerate(standing) if k != road])
                    self.assertEqual(behind[road], standing[road] + by)
                    self.assertEqual(done(web, behind, (road, -by)), standing)
                    a, b = web[1][road]
                    ahead, now = sums_of(web, standing), sums_of(web, behind)
                    self.assertEqual(now[a] - now[b], ahead[a] - ahead[b])

    def test_new_names(self):
        for web in (ROW, KITE, WIDE_FORK):
            for names in mixed(web[0], 10):
                made, order = renamed_web(web, names)
                for standing in every_standing(web):
                    told = let_deeds(made, renamed_standing(web, names, standing))
                    self.assertEqual(sorted([(order[road], by) for road, by in told]), list(let_deeds(web, standing)))
