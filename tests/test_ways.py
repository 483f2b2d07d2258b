"""[B3], [B4]: way_error, end_of, standings_along, turned, shortened, trodden; [B5] as far as it speaks of ways."""

import unittest

from tests.samples import GREAT, ODD_VALUES, ROW, SMALL_WEBS, every_standing, wandered
from unevenroads.errors import Unfit
from unevenroads.shapes import full_web, path_web
from unevenroads.ways import end_of, shortened, standings_along, trodden, turned, way_error

ONE = (1, 0, 0)
WAY = ((1, 1), (0, -1), (2, 1))
AROUND = ((1, 1), (0, -1), (0, 1), (1, -1), (1, 1), (2, 1))


def wanderings():
    """Some webs, standings of them, ways that wander about, and where they lead."""
    found = []
    for web in SMALL_WEBS + [path_web(24, 1), full_web(6, 2)]:
        standings = [(1,) + (0,) * (len(web[1]) - 1)]
        if web in SMALL_WEBS:
            standings = every_standing(web)[:30]
        for seed, standing in enumerate(standings):
            way, end = wandered(web, standing, 5 + 4 * seed, seed)
            found.append((web, standing, way, end))
    return found


class WayErrorTest(unittest.TestCase):

    def check(self, standing, value, error):
        self.assertEqual(way_error(ROW, standing, value), error)
        self.assertEqual(way_error(web=ROW, standing=standing, value=value), error)
        if error is not None:
            for function in (end_of, standings_along):
                self.assertRaises(Unfit, function, ROW, standing, value)

    def test_examples(self):
        self.check(ONE, WAY, None)
        self.check(ONE, WAY[1:], (0, "alike"))
        self.check(ONE, ((1, 1), (1, 1)), (1, "room"))
        self.check(ONE, list(WAY), "form")

    def test_form(self):
        for value in [[], [(1, 1)], None, "", 0, True, {}, {(1, 1): 1}]:
            self.check(ONE, value, "form")

    def test_the_empty_way(self):
        for standing in every_standing(ROW):
            self.check(standing, (), None)

    def test_one_deed_spoilt_behind_right_ones(self):
        for deed, error in [((3, 1), "road"), ((-1, 1), "road"), ((2, 0), "by"), ((2, 2), "by"), ((2, -1), "room"),
                            ((1, -1), "alike"), ((0, 1), None), ([2, 1], "form"), ((2, True), "form"),
                            ((True, 1), "form"), (None, "form"), ((), "form"), ((2, 1, 1), "form"), ("21", "form")]:
            told = None if error is None else (2, error)
            self.check(ONE, WAY[:2] + (deed,), told)
            self.check(ONE, WAY[:2] + (deed, None), (3, "form") if error is None else told)

    def test_the_first_spoilt_deed_is_told(self):
        self.check(ONE, ((0, -1), None), (0, "alike"))
        self.check(ONE, ((1, 1), (1, 1), (9, 9)), (1, "room"))
        self.check(ONE, ((1, 1), (9, GREAT)), (1, "road"))

    def test_a_deed_is_asked_behind_those_ahead(self):
        self.check(ONE, ((2, 1),), (0, "alike"))
        self.check(ONE, ((1, 1), (2, 1)), None)
        self.check((1, 1, 0), ((2, 1), (2, 1)), None)
        self.check((1, 1, 0), ((2, 1), (2, 1), (2, 1)), (2, "room"))
        self.check((1, 1, 1), ((2, 1), (1, -1)), None)

    def test_odd_values(self):
        for value in ODD_VALUES:
            self.assertEqual(way_error(ROW, ONE, value), self.fault_of(value))
            if not isinstance(value, tuple):
                self.assertRaises(Unfit, end_of, ROW, ONE, value)
                self.assertRaises(Unfit, standings_along, ROW, ONE, value)
            self.check(ONE, WAY + (value,), (3, self.fault_of_deed(value)))

    def fault_of(self, value):
        if not isinstance(value, tuple):
            return "form"
        return (0, "form") if value else None

    def fault_of_deed(self, value):
        if not isinstance(value, tuple) or [type(item) for item in value] != [int, int]:
            return "form"
        return "by" if value[0] in (0, 1, 2) else "road"


class AlongTest(unittest.TestCase):

    def test_examples(self):
        self.assertEqual(end_of(ROW, ONE, WAY), (0, 1, 1))
        self.assertEqual(standings_along(ROW, ONE, WAY[:2]), ((1, 0, 0), (1, 1, 0), (0, 1, 0)))
        self.assertEqual(end_of(ROW, (1, 0, 1), ()), (1, 0, 1))

    def test_by_name(self):
        self.assertEqual(end_of(web=ROW, standing=ONE, way=WAY[:1]), (1, 1, 0))
        self.assertEqual(standings_along(web=ROW, standing=ONE, way=()), (ONE,))

    def test_wanderings(self):
        for web, standing, way, end in wanderings():
            self.assertIsNone(way_error(web, standing, way))
            self.assertEqual(end_of(web, standing, way), end)
            along = standings_along(web, standing, way)
            self.assertIsInstance(along, tuple)
            self.assertEqual((along[0], along[-1], len(along)), (standing, end, len(way) + 1))
            for (road, by), ahead, behind in zip(way, along, along[1:]):
                loads = list(ahead)
                loads[road] += by
                self.assertEqual(tuple(loads), behind)


class TurnedTest(unittest.TestCase):

    def test_examples(self):
        self.assertEqual(turned(WAY), ((2, -1), (0, 1), (1, -1)))
        self.assertEqual(end_of(ROW, end_of(ROW, ONE, WAY), turned(WAY)), ONE)
        self.assertEqual(turned(way=()), ())

    def test_wanderings(self):
        for web, standing, way, end in wanderings():
            self.assertEqual(end_of(web, end, turned(way)), standing)
            self.assertEqual(standings_along(web, end, turned(way)), standings_along(web, standing, way)[::-1])
            self.assertEqual(turned(turned(way)), way)


class ShortenedTest(unittest.TestCase):

    def test_examples(self):
        self.assertEqual(end_of(ROW, ONE, AROUND), (1, 1, 1))
        self.assertEqual(shortened(ROW, ONE, AROUND), ((1, 1), (2, 1)))
        self.assertEqual(shortened(web=ROW, standing=ONE, way=((1, 1), (1, -1))), ())
        self.assertEqual(shortened(ROW, ONE, ()), ())
        self.assertEqual(shortened(ROW, ONE, WAY), WAY)

    def test_the_last_leaving_counts(self):
        # (1, 1, 0) is left four times: first to (0, 1, 0), at last to (1, 1, 1).
        way = ((1, 1), (0, -1), (0, 1), (2, 1), (2, -1), (1, -1), (1, 1), (2, 1), (2, 1))
        self.assertEqual(shortened(ROW, ONE, way), ((1, 1), (2, 1), (2, 1)))
        way = ((1, 1), (2, 1), (0, -1), (2, -1), (0, 1))
        self.assertEqual(shortened(ROW, ONE, way), ((1, 1),))

    def test_a_way_without_circles_stays_even_if_a_shorter_one_leads_there(self):
        way = ((1, 1), (0, -1), (2, 1), (0, 1))
        self.assertEqual(end_of(ROW, ONE, way), end_of(ROW, ONE, ((1, 1), (2, 1))))
        self.assertEqual(shortened(ROW, ONE, way), way)

    def test_wanderings(self):
        for web, standing, way, end in wanderings():
            told = shortened(web, standing, way)
            self.assertEqual(end_of(web, standing, told), end)
            along = standings_along(web, standing, told)
            self.assertEqual(len(set(along)), len(along))
            self.assertEqual(told, self.by_the_words(web, standing, way))
            self.assertEqual(shortened(web, standing, told), told)

    def by_the_words(self, web, standing, way):
        along = standings_along(web, standing, way)
        told, reached = [], standing
        while reached != along[-1]:
            place = max([k for k in range(len(way)) if along[k] == reached])
            told.append(way[place])
            reached = along[place + 1]
        return tuple(told)


class TroddenTest(unittest.TestCase):

    def test_examples(self):
        self.assertEqual(trodden(AROUND), ((0, 1, 1), (1, 2, 1), (2, 1, 0)))
        self.assertEqual(trodden(way=WAY), ((0, 0, 1), (1, 1, 0), (2, 1, 0)))
        self.assertEqual(trodden(()), ())

    def test_roads_that_are_not_in_it_are_left_out(self):
        self.assertEqual(trodden(((1, 1), (1, -1), (1, 1))), ((1, 2, 1),))
        self.assertEqual(trodden(((8, 1), (1, -1), (16, 1))), ((1, 0, 1), (8, 1, 0), (16, 1, 0)))

    def test_wanderings(self):
        for web, standing, way, end in wanderings():
            told = trodden(way)
            self.assertEqual(list(told), sorted(told))
            self.assertEqual([road for road, _, _ in told], sorted(set([road for road, _ in way])))
            self.assertEqual(sum([laid + taken for _, laid, taken in told]), len(way))
            for road, laid, taken in told:
                self.assertEqual(laid - taken, end[road] - standing[road])
                self.assertEqual(laid, len([deed for deed in way if deed == (road, 1)]))
            self.assertEqual(trodden(turned(way)), tuple([(road, taken, laid) for road, laid, taken in told]))
