"""[M7]: Kept; [M8] as far as it speaks of it."""

import inspect
import unittest
from copy import deepcopy
from random import Random
from time import perf_counter

from tests.modelling import outcome
from tests.samples import GREAT, ODD_VALUES, PAIR, ROW, ROW_5, SMALL_WEBS
from tests.walking import great_webs, let_here, place_sums, some_standing
from unevenroads.deeds import deed_error
from unevenroads.kept import Kept
from unevenroads.shapes import full_web, path_web
from unevenroads.standings import standing_error, unlike_roads
from unevenroads.webs import web_error


def unlike_here(web, standing):
    """The roads whose ends have unlike sums."""
    sums = place_sums(web, standing)
    return tuple([road for road, (a, b) in enumerate(web[1]) if sums[a] != sums[b]])


class KeptTest(unittest.TestCase):

    def raises(self, kept, error, function, *arguments):
        """Whether the call raises this error, and changes nothing."""
        ahead = self.told(kept)
        self.assertEqual(outcome(function, *arguments), ("raised", error), arguments)
        self.assertEqual(self.told(kept), ahead)

    def told(self, kept):
        return (kept.standing, kept.sums, kept.unlike, kept.version, kept.looks, kept.news(0))

    def test_examples(self):
        k = Kept(ROW_5, (1, 0, 0, 0))
        self.assertEqual([k.unlike, k.looks, k.lay(1), k.unlike, k.looks, k.take(0), k.sums, k.looks, k.back(),
                          k.standing, k.looks], [(1,), 4, 1, (0, 1, 2), 7, 2, (0, 1, 1, 0, 0), 9, 3, (1, 1, 0, 0), 11])
        self.assertEqual(k.news(0), ((1, "unlike", 0), (1, "unlike", 2), (2, "alike", 1), (3, "unlike", 1)))
        self.assertEqual(k.news(2), ((3, "unlike", 1),))
        self.raises(k, ("Unfit",), k.lay, 0)

    def test_methods_stand_in_the_class(self):
        self.assertEqual(Kept.__module__, "unevenroads.kept")
        for name, words in {"__init__": "web standing", "lay": "road", "take": "road", "back": "",
                            "news": "since"}.items():
            self.assertEqual(list(inspect.signature(vars(Kept)[name]).parameters)[1:], words.split())
        for name in ("standing", "sums", "unlike", "version", "looks"):
            self.assertIn(name, vars(Kept))

    def test_by_name(self):
        k = Kept(web=ROW_5, standing=(1, 0, 0, 0))
        self.assertEqual((k.lay(road=1), k.take(road=0), k.news(since=1)), (1, 2, ((2, "alike", 1),)))

    def test_properties_can_only_be_read(self):
        k = Kept(ROW_5, (1, 0, 0, 0))
        for name in ("standing", "sums", "unlike", "version", "looks"):
            with self.assertRaises(AttributeError):
                setattr(k, name, ())
        self.assertEqual((k.standing, k.version), ((1, 0, 0, 0), 0))

    def test_at_first(self):
        dice = Random(201)
        for web in SMALL_WEBS + great_webs():
            standing = some_standing(web, dice)
            k = Kept(web, standing)
            self.assertEqual(self.told(k), (standing, tuple(place_sums(web, standing)), unlike_here(web, standing), 0,
                                            len(web[1]), ()))
            self.raises(k, ("Unfit",), k.back)

    def test_webs_and_standings_that_are_none(self):
        for value in ODD_VALUES + [list(ROW), (4, [(0, 1)], (1,)), (4, ((0, 1), (2, 3)), (1, 1)),
                                   (True, ((0, 1),), (1,))]:
            error = web_error(value)
            if error is not None:
                for standing in (None, (1,), value):
                    self.assertEqual(outcome(Kept, value, standing), ("raised", ("BadWeb", error)))
            error = standing_error(ROW, value)
            if error is not None:
                self.assertEqual(outcome(Kept, ROW, value), ("raised", ("BadStanding", error)))
        self.assertEqual(outcome(Kept, ROW, (0, 0, 3)), ("raised", ("BadStanding", ("load", 2))))
        self.assertEqual(outcome(Kept, ROW, (0, True, 0)), ("raised", ("BadStanding", ("load", 1))))
        self.assertEqual(outcome(Kept, ROW, [0, 0, 0]), ("raised", ("BadStanding", "form")))

    def test_deeds_that_are_not_let(self):
        for web, standing in [(ROW, (1, 0, 0)), (ROW_5, (0, 1, 0, 1)), (PAIR, (4,)),
                              (full_web(4, 2), (2, 1, 0, 1, 2, 0))]:
            k = Kept(web, standing)
            let = [deed for deed, _ in let_here(web, standing)]
            for value in ODD_VALUES + list(range(-2, len(web[1]) + 2)) + [GREAT, (0, 1), [1], "1", (1,), True, False]:
                for function, by in ((k.lay, 1), (k.take, -1)):
                    if type(value) is int and (value, by) in let:
                        continue
                    self.assertIsNotNone(deed_error(web, standing, (value, by)))
                    self.raises(k, ("Unfit",), function, value)

    def test_drawn_deeds(self):
        for seed in range(60):
            dice = Random(seed)
            web = dice.choice(SMALL_WEBS + [full_web(5, 3), path_web(9, 1), path_web(7, 4)])
            k = Kept(web, some_standing(web, dice))
            self.go_on(k, web, dice, 40)

    def go_on(self, k, web, dice, many):
        """Does deeds, and undoes some: all that is told is worked out anew each time."""
        standing, looks, version, stands, events = k.standing, k.looks, 0, [], []
        first = k.unlike
        for _ in range(many):
            let = dict(let_here(web, standing))
            if stands and dice.random() < 0.35 or not let:
                if not stands:
                    self.raises(k, ("Unfit",), k.back)
                    break
                road, by = stands.pop()
                by = -by
                told = k.back()
            else:
                road, by = dice.choice(sorted(let))
                told = k.lay(road) if by == 1 else k.take(road)
                stands.append((road, by))
            before, standing = unlike_here(web, standing), let[(road, by)]
            version += 1
            looks += len([ends for ends in web[1] if set(ends).intersection(web[1][road])])
            now = unlike_here(web, standing)
            events.extend(sorted([(version, "alike", x) for x in before if x not in now]
                                 + [(version, "unlike", x) for x in now if x not in before]))
            self.assertEqual(told, version)
            self.assertEqual((k.standing, k.sums, k.unlike, k.version, k.looks),
                             (standing, tuple(place_sums(web, standing)), now, version, looks))
            self.assertEqual(k.unlike, unlike_roads(web, standing))
        for since in range(version + 1):
            self.assertEqual(k.news(since), tuple([event for event in events if event[0] > since]))
        roads = set(first)
        for _, word, road in k.news(0):
            self.assertEqual(road in roads, word == "alike")
            roads.symmetric_difference_update([road])
        self.assertEqual(tuple(sorted(roads)), k.unlike)

    def test_back_again_and_again(self):
        k = Kept(ROW_5, (1, 0, 0, 0))
        k.lay(1)
        k.lay(2)
        k.take(0)
        self.assertEqual([k.back(), k.standing, k.back(), k.standing, k.back(), k.standing],
                         [4, (1, 1, 1, 0), 5, (1, 1, 0, 0), 6, (1, 0, 0, 0)])
        self.raises(k, ("Unfit",), k.back)
        self.assertEqual((k.lay(1), k.back(), k.standing, k.version), (7, 8, (1, 0, 0, 0), 8))
        self.raises(k, ("Unfit",), k.back)

    def test_news_since_what_is_no_version(self):
        k = Kept(ROW_5, (1, 0, 0, 0))
        for value in [1, -1, True, False, None, "0", (0,), [0], GREAT] + [value for value in ODD_VALUES
                                                                          if type(value) is not int or value != 0]:
            self.raises(k, ("NoVersion", value), k.news, value)
        k.lay(1)
        self.assertEqual((k.news(1), len(k.news(0))), ((), 2))
        self.raises(k, ("NoVersion", 2), k.news, 2)
        self.raises(k, ("NoVersion", True), k.news, True)

    def test_what_was_returned_does_not_change(self):
        k = Kept(ROW_5, (1, 0, 0, 0))
        k.lay(1)
        told = self.told(k)
        kept = deepcopy(told)
        hash(told)
        k.lay(2)
        k.back()
        k.take(0)
        self.assertEqual(told, kept)

    def test_no_call_takes_long(self):
        dice = Random(202)
        for web in (full_web(9, 9), path_web(24, 9)):
            begin = perf_counter()
            k = Kept(web, (1,) + (0,) * (len(web[1]) - 1))
            for _ in range(1500):
                road, by = dice.choice([deed for deed in [(road, by) for road in k.unlike for by in (1, -1)]
                                        if 0 <= k.standing[deed[0]] + deed[1] <= 9])
                self.assertEqual(k.lay(road) if by == 1 else k.take(road), k.version)
            self.assertEqual(k.sums, tuple(place_sums(web, k.standing)))
            self.assertLess(perf_counter() - begin, 4)
