"""[A4] to [A6]: webs, roads_at, steps_from."""

import unittest

from tests.samples import FORK, FULL_4, GREAT, ODD_VALUES, ROW, SMALL_WEBS, STAR, least_steps
from unevenroads.webs import roads_at, steps_from, web_error

ROADS_40 = tuple([(a, b) for a in range(10) for b in range(a + 1, 10)][:40])
ROADS_41 = tuple([(a, b) for a in range(10) for b in range(a + 1, 10)][:41])
LONG = tuple([(x, x + 1) for x in range(23)])


class WebErrorTest(unittest.TestCase):

    def check(self, value, error):
        self.assertEqual(web_error(value), error)
        self.assertEqual(web_error(value=value), error)

    def test_examples(self):
        for value, error in [
            (ROW, None), ([4, ((0, 1),), (1,)], "form"), ((1, (), ()), "size"), ((3, (), ()), "roads"),
            ((3, ((0, 1), (2, 1)), (1,)), ("road", 1)), ((3, ((0, 2), (0, 1)), (1,)), ("order", 1)),
            ((3, ((0, 1), (0, 1)), (1, 1)), ("order", 1)), ((3, ((0, 1), (0, 2)), (1,)), "bounds"),
            ((3, ((0, 1), (0, 2)), (1, 10)), ("bound", 1)), ((4, ((0, 1), (2, 3)), (1, 1)), "apart"),
        ]:
            self.check(value, error)

    def test_webs(self):
        for web in SMALL_WEBS:
            self.check(web, None)

    def test_form(self):
        roads, most = ROW[1:]
        for value in [(4, roads), (4, roads, most, 0), (4, list(roads), most), (4, roads, list(most)), (4, None, most),
                      (4, "ab", (1, 1)), (4, roads, 1), [4, roads, most], (1, [], ()), (None, (), []), ()]:
            self.check(value, "form")

    def test_size(self):
        self.check((2, ((0, 1),), (1,)), None)
        self.check((24, LONG, (1,) * 23), None)
        for n in [1, 0, -1, -GREAT, 25, GREAT, True, False, None, "4", (4,), [4], {}]:
            self.check((n, LONG, (1,) * 23), "size")
            self.check((n, (), ()), "size")

    def test_number_of_roads(self):
        self.check((10, ROADS_40, (1,) * 40), None)
        self.check((10, ROADS_41, (1,) * 41), "roads")
        self.check((2, (), ()), "roads")
        self.check((2, (None,) * 41, (0,)), "roads")
        self.check((2, (None,) * 40, (0,)), ("road", 0))

    def test_road(self):
        for road in [None, 1, "01", [0, 1], (), (0,), (0, 1, 2), (0, 0), (1, 0), (0, 4), (-1, 0),
                     (0, GREAT), (-GREAT, 1),
                     (0, True), (False, 1), ("0", "1"), (None, 1), ((0,), 1), (0, [1])]:
            self.check((4, (road,), (1,)), ("road", 0))
            self.check((4, ((0, 1), (1, 2), road), (1, 1, 1)), ("road", 2))

    def test_road_comes_ahead_of_order(self):
        self.check((4, ((1, 2), (0, 1), (2, 2)), ()), ("road", 2))
        self.check((4, ((1, 2), (0, 1), (2, 3)), ()), ("order", 1))

    def test_order(self):
        self.check((4, ((0, 1), (1, 2), (1, 2), (0, 3)), (1,) * 4), ("order", 2))
        self.check((4, ((0, 1), (2, 3), (1, 3)), (1,) * 3), ("order", 2))

    def test_bounds(self):
        for most in [(), (1,), (1, 1), (1, 1, 1, 1), (0, 0), (None,) * 4]:
            self.check((4, ROW[1], most), "bounds")

    def test_bound(self):
        for bears in [0, 10, -1, GREAT, True, False, None, "1", (1,), [1]]:
            self.check((4, ROW[1], (bears, 1, 1)), ("bound", 0))
            self.check((4, ROW[1], (9, 1, bears)), ("bound", 2))
        self.check((4, ROW[1], (9, 0, 10)), ("bound", 1))
        self.check((4, ((0, 1), (2, 3)), (1, 0)), ("bound", 1))

    def test_apart(self):
        self.check((3, ((0, 1),), (1,)), "apart")
        self.check((3, ((1, 2),), (1,)), "apart")
        self.check((6, ((0, 1), (0, 2), (1, 2), (3, 4), (3, 5), (4, 5)), (1,) * 6), "apart")
        self.check((24, LONG[:11] + LONG[12:], (1,) * 22), "apart")
        self.check((4, ((0, 3), (1, 2), (1, 3)), (1,) * 3), None)

    def test_odd_values(self):
        for value in ODD_VALUES:
            self.assertIsNotNone(web_error(value))
            self.assertIsNotNone(web_error((value, ROW[1], ROW[2])))
            self.assertIsNotNone(web_error((4, ROW[1], value)))
            self.check((4, ROW[1], (1, value, 1)), None if value in (1, 2) and value is not True else ("bound", 1))
            self.check((4, (value,), (1,)), ("road", 0))

    def test_nothing_is_changed(self):
        value = (4, [[0, 1]], {"a": [1]})
        web_error(value)
        self.assertEqual(value, (4, [[0, 1]], {"a": [1]}))


class RoadsAtTest(unittest.TestCase):

    def test_examples(self):
        self.assertEqual(roads_at(ROW, 1), ((0, 0), (2, 1)))
        self.assertEqual(roads_at(web=ROW, place=0), ((1, 0),))

    def test_both_ends(self):
        self.assertEqual(roads_at(STAR, 4), ((0, 0), (1, 3)))
        self.assertEqual(roads_at(FORK, 3), ((0, 2), (4, 3)))
        self.assertEqual(roads_at(FULL_4, 2), ((0, 1), (1, 3), (3, 5)))

    def test_all_small_webs(self):
        for web in SMALL_WEBS:
            for place in range(web[0]):
                told = roads_at(web, place)
                self.assertIsInstance(told, tuple)
                self.assertEqual(list(told), sorted(told))
                wished = [(sum(ends) - place, road) for road, ends in enumerate(web[1]) if place in ends]
                self.assertEqual(sorted(told), sorted(wished))


class StepsFromTest(unittest.TestCase):

    def test_examples(self):
        self.assertEqual(steps_from(ROW, 1), (1, 0, 1, 2))
        self.assertEqual(steps_from((5, ((0, 1), (0, 4), (1, 2), (2, 3), (3, 4)), (1,) * 5), 2), (2, 1, 0, 1, 2))
        self.assertEqual(steps_from(web=ROW, place=3), (3, 2, 1, 0))

    def test_all_small_webs(self):
        for web in SMALL_WEBS + [(24, LONG, (1,) * 23), (10, ROADS_40, (9,) * 40)]:
            table = least_steps(web)
            for place in range(web[0]):
                told = steps_from(web, place)
                self.assertIsInstance(told, tuple)
                self.assertEqual(list(told), table[place])
