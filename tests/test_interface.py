"""The names and arguments of the interface, and [A3] as far as it speaks of all functions."""

import inspect
import unittest
from copy import deepcopy
from importlib import import_module

from tests.samples import FORK, FULL_4, KITE, ODD_VALUES, PAIR, ROUND_5, ROW, ROW_5, STAR
from unevenroads.benches import Bench
from unevenroads.errors import UnevenError
from unevenroads.games import turns_of
from unevenroads.kept import Kept
from unevenroads.shapes import board_web, full_web, path_web, ring_web
from unevenroads.shells import Shell

DEEDS = [(1, 1), [1, 1], (1, -1)] + ODD_VALUES
WAY = ((1, 1), (0, -1), (2, 1))
FIVE = (1, 0, 0, 1)
SIX = (0, 0, 0, 1, 1, 1)
PAPERS = [("even", 0), ("walls", 0, 2), ["even", 0], ("even", False)] + ODD_VALUES
SORTS = [("walls", 2), ("walls", 3), ["walls", 2], ("walls", True), ("near",), ("even",), ("rest",)] + ODD_VALUES
# Some standings of some webs, for functions that take just these; of the last web there are too many to go through.
STANDINGS = [[FORK, FIVE], [FORK, (1, 1, 0, 0)], [STAR, SIX], [STAR, (1,) * 6], [ROW_5, (0, 1, 0, 1)], [PAIR, (7,)],
             [ROUND_5, (0, 1, 1, 0, 0)], [ROW_5, (0,) * 4], [path_web(24, 1), (1, 0, 1, 0, 1, 0, 1, 0, 1) + (0,) * 14],
             [full_web(7, 1), (1,) + (0,) * 20]]
WEBS = [[web] for web, _ in STANDINGS] + [[KITE], [FULL_4], [ring_web(24, 9)], [board_web(2, 3, 1)]]
TOTALS = [0, 1, 2, -1, 10 ** 30]
# Two standings of a web each: joined, not joined, and one that is both.
PAIRS = [call + [other] for call in STANDINGS for other in (call[1], call[1][::-1], (1,) + (0,) * (len(call[1]) - 1))]
GOALS = ((0, 1, 1, 1), (1, 1, 0, 0), (1, 1, 1, 0))
GAMES = [[ROW_5, one, GOALS] for one in ((1, 1, 0, 0), (1, 1, 1, 1), (0, 0, 1, 0), (0, 0, 0, 0), (1, 0, 1, 0))]
GAMES.append([full_web(7, 1), (1,) + (0,) * 20, ((0,) * 21,)])
TABLE = turns_of(ROW_5, (1, 0, 0, 0), GOALS)
ADD = ("add", "row", ROW_5, (1, 0, 0, 0))
WAYS = [WAY, list(WAY), WAY[1:], ()] + ODD_VALUES + [WAY + (value,) for value in ODD_VALUES]

# For each module its functions, their arguments, and some calls.
INTERFACE = {
    "webs": [
        ("web_error", "value", [[ROW], [(4, [[0, 1]], {"a": [1]})]] + [[value] for value in ODD_VALUES]),
        ("roads_at", "web place", [[ROW, 1]]),
        ("steps_from", "web place", [[ROW, 1]]),
    ],
    "shapes": [
        ("path_web", "n most", [[4, 2], [1, 2]]),
        ("ring_web", "n most", [[4, 2], [2, 2]]),
        ("full_web", "n most", [[4, 2], [10, 2]]),
        ("board_web", "rows columns most", [[2, 3, 2], [0, 3, 2]]),
    ],
    "standings": [
        ("standing_error", "web value", [[ROW, (0, 1, 2)]] + [[ROW, value] for value in ODD_VALUES]),
        ("sums_of", "web standing", [[ROW, (0, 1, 2)]]),
        ("is_even", "web standing", [[ROW, (0, 1, 2)]]),
        ("unlike_roads", "web standing", [[ROW, (0, 1, 2)]]),
    ],
    "webtexts": [
        ("web_text", "web", [[ROW]]),
        ("read_web", "value", [["2 0-1:9"]] + [[value] for value in ODD_VALUES]),
        ("standing_text", "standing", [[(0, 1, 2)]]),
        ("read_standing", "web value", [[ROW, "012"]] + [[ROW, value] for value in ODD_VALUES]),
    ],
    "renamed": [
        ("renamed_web", "web names", [[ROW, (1, 3, 0, 2)]]),
        ("renamed_standing", "web names standing", [[ROW, (1, 3, 0, 2), (0, 1, 2)]]),
    ],
    "deeds": [
        ("deed_error", "web standing value", [[ROW, (1, 0, 0), value] for value in DEEDS]),
        ("let_deeds", "web standing", [[ROW, (1, 1, 1)]]),
        ("done", "web standing deed", [[ROW, (1, 0, 0), value] for value in DEEDS]),
    ],
    "ways": [
        ("way_error", "web standing value", [[ROW, (1, 0, 0), value] for value in WAYS]),
        ("end_of", "web standing way", [[ROW, (1, 0, 0), value] for value in WAYS]),
        ("standings_along", "web standing way", [[ROW, (1, 0, 0), value] for value in WAYS]),
        ("turned", "way", [[WAY], [()]]),
        ("shortened", "web standing way", [[ROW, (1, 0, 0), WAY], [ROW, (1, 0, 0), ()]]),
        ("trodden", "way", [[WAY], [()]]),
    ],
    "parted": [
        ("elder_tree", "web", [[STAR], [FORK]]),
        ("parted_web", "s tree", [[4, ((0, 1), (0, 2), (0, 3))], [3, ((0, 1),)]]),
    ],
    "kinds": [
        ("kind_of", "web", [[STAR], [FORK], [ROW]]),
        ("row_of", "web", [[ROW], [FORK]]),
    ],
    "meets": [
        ("meeting_paper", "web", [[STAR], [FORK], [FULL_4]]),
        ("meeting_holds", "web value", [[FORK, (0, ("sides", 0, 1))]] + [[FORK, value] for value in ODD_VALUES]),
    ],
    "pairings": [
        ("is_pairing", "web standing", STANDINGS),
        ("holes_of", "web standing", STANDINGS),
        ("partner_of", "web standing place", [call + [place] for call in STANDINGS for place in (0, 1)]),
        ("passed", "web standing place hole", [call + [place, 2] for call in STANDINGS[:8] for place in (0, 1)]),
        ("dropped", "web standing place hole other", [[FORK, FIVE, 0, 2, 3], [FORK, FIVE, 0, 2, 1]]),
    ],
    "lessening": [
        ("fewest", "web standing", STANDINGS),
        ("lessened", "web standing", STANDINGS),
    ],
    "leading": [
        ("base_of", "web standing", STANDINGS),
        ("led_to_base", "web standing", STANDINGS),
    ],
    "walls": [
        ("walls_of", "web standing", STANDINGS),
        ("is_near", "web standing", STANDINGS),
    ],
    "joining": [
        ("class_of", "web standing", STANDINGS),
        ("joined", "web one other", [call + [call[1][::-1]] for call in STANDINGS]),
        ("way_between", "web one other", [call + [call[1][::-1]] for call in STANDINGS]),
    ],
    "joinpapers": [
        ("paper_holds", "web one other value", [[ROW_5, (0, 0, 0, 0), (1, 0, 0, 0), value] for value in PAPERS]),
    ],
    "classes": [
        ("uneven_classes", "web", WEBS),
        ("class_count", "web", WEBS),
    ],
    "wallrows": [
        ("standing_at", "web sort value", [[web, sort, 1] for web in (ROW_5, STAR, FORK) for sort in SORTS]
         + [[web, sort, value] for web, sort in ((ROW_5, ("walls", 2)), (STAR, ("near",))) for value in ODD_VALUES]),
        ("number_of", "web standing", STANDINGS),
    ],
    "evens": [
        ("even_sums", "web", WEBS),
        ("even_count", "web", WEBS),
        ("least_even", "web total", [call + [total] for call in WEBS for total in TOTALS]),
    ],
    "evencounts": [
        ("even_boards", "m most total", [[m, 2, total] for m in (1, 2, 3) for total in TOTALS]),
        ("even_fulls", "n most total", [[n, 2, total] for n in (2, 3, 4) for total in TOTALS]),
    ],
    "evenflows": [
        ("even_with", "web total", [call + [total] for call in WEBS for total in TOTALS]),
        ("lack_paper", "web total", [call + [total] for call in WEBS for total in TOTALS]),
        ("lack_holds", "web total value", [[web, 1, value] for web in (FORK, ROW, FULL_4)
                                           for value in [("sides",), ("few", (1, 2)), ("few", [1, 2])] + ODD_VALUES]),
    ],
    "holes": [
        ("hole_walk", "web standing", STANDINGS),
        ("pairings", "web many", [call + [many] for call in WEBS for many in (0, 1, 2, 5, 10 ** 30)]),
        ("nearest_pairs", "web standing", STANDINGS),
        ("may_drop", "web standing", STANDINGS),
        ("is_stubborn", "web standing", STANDINGS),
    ],
    "spheres": [
        ("spheres", "web standing", STANDINGS),
        ("farthest", "web standing", STANDINGS),
        ("least_way", "web one other", PAIRS),
    ],
    "walldeeds": [
        ("wall_deeds", "web one other", PAIRS),
        ("wall_way", "web one other", PAIRS),
    ],
    "chances": [
        ("chances", "web standing draws", [call + [draws] for call in STANDINGS for draws in (0, 1, 3, 12)]),
        ("long_run", "web standing", STANDINGS),
    ],
    "letcounts": [
        ("let_total", "web sort", [[web, sort] for web in (ROW_5, STAR, FORK) for sort in SORTS]),
        ("mean_let", "web sort", [[web, sort] for web in (ROW_5, STAR, FORK) for sort in SORTS]),
    ],
    "meandraws": [
        ("mean_draws", "web one other", PAIRS),
    ],
    "wishes": [
        ("wished", "web standing wish", PAIRS + [call[:2] + [(None,) * len(call[1])] for call in STANDINGS]),
        ("load_span", "web standing road", [call + [road] for call in STANDINGS for road in (0, len(call[1]) - 1)]),
    ],
    "closed": [
        ("closed_way", "web one other closed", [call + [closed] for call in PAIRS for closed in ((), (0,))]),
    ],
    "joints": [
        ("joint", "one other a b", [[ROW, STAR, 1, 6], [path_web(24, 1), PAIR, 0, 0]]),
        ("bridged", "one other a b most", [[ROW, STAR, 1, 6, 9], [path_web(24, 1), PAIR, 0, 0, 1]]),
    ],
    "games": [
        ("led_turns", "web standing goals", GAMES),
        ("turns_of", "web standing goals", GAMES),
        ("turns_hold", "web standing goals value",
         [GAMES[1] + [value] for value in [TABLE, list(TABLE), TABLE[1:]] + ODD_VALUES]),
        ("led_deed", "web standing goals road", [call + [road] for call in GAMES for road in (0, 3)]),
        ("barring_road", "web standing goals", GAMES),
    ],
    "logs": [
        ("log_text", "edits", [[()], [(ADD, ("batch", (("drop", "row"),)))]]),
        ("read_log", "value", [["(drop,row)\n(lay"], ["(drop,-0)\n"]] + [[value] for value in ODD_VALUES]),
        ("bench_behind", "edits", [[()], [(ADD, ("lay", "row", 1))], [(ADD, ADD)]]),
    ],
}

# The classes, and what of them is listed.
CLASSES = {
    "benches": (Bench, "add drop call lay take go widen batch size joined lets undo redo at copy attempt",
                "shelf version log made"),
    "shells": (Shell, "say", ""),
    "kept": (Kept, "lay take back news", "standing sums unlike version looks"),
}

# All modules of the interface.
MODULES = (
    "bounds errors webs shapes standings webtexts renamed deeds ways kinds parted meets pairings lessening leading walls "
    "joining joinpapers classes wallrows evens evencounts evenflows holes spheres walldeeds chances letcounts meandraws "
    "wishes closed joints games benches logs shells kept"
).split()


def outcome(function, arguments, names):
    """What a call returns, or the class of the error that it raises."""
    try:
        if names:
            return function(**dict(zip(names, arguments)))
        return function(*arguments)
    except UnevenError as error:
        return error.__class__


class InterfaceTest(unittest.TestCase):

    def each(self):
        for module, functions in INTERFACE.items():
            told = import_module("unevenroads." + module)
            for name, words, calls in functions:
                yield module, getattr(told, name), words.split(), calls

    def test_each_function_is_defined_in_its_file(self):
        for module, function, words, _ in self.each():
            self.assertTrue(inspect.isfunction(function))
            self.assertEqual(function.__module__, "unevenroads." + module)
            parameters = inspect.signature(function).parameters
            self.assertEqual(list(parameters), words, function)
            for parameter in parameters.values():
                self.assertIs(parameter.kind, inspect.Parameter.POSITIONAL_OR_KEYWORD)
                self.assertIs(parameter.default, inspect.Parameter.empty)

    def test_all_modules_are_looked_at(self):
        self.assertEqual(sorted(MODULES), sorted(list(INTERFACE) + list(CLASSES) + ["bounds", "errors"]))
        self.assertEqual(len(MODULES), 37)

    def test_each_class_is_defined_in_its_file(self):
        made = {"benches": Bench(), "shells": Shell(), "kept": Kept(ROW_5, (1, 0, 0, 0))}
        for module, (own, methods, properties) in CLASSES.items():
            self.assertIs(getattr(import_module("unevenroads." + module), own.__name__), own)
            self.assertEqual(own.__module__, "unevenroads." + module)
            for name in methods.split():
                self.assertTrue(inspect.isfunction(vars(own)[name]), name)
            for name in properties.split():
                self.assertIsInstance(vars(own)[name], property)
                getattr(made[module], name)

    def test_calls_by_place_and_by_name_tell_the_same(self):
        for _, function, words, calls in self.each():
            for arguments in calls:
                ahead = deepcopy(arguments)
                told = outcome(function, arguments, [])
                self.assertEqual(outcome(function, arguments, words), told, (function, arguments))
                self.assertEqual(outcome(function, deepcopy(arguments), []), told, (function, arguments))
                self.assertEqual(repr(arguments), repr(ahead), function)

    def test_what_is_returned_cannot_change(self):
        for _, function, _, calls in self.each():
            for arguments in calls:
                told = outcome(function, arguments, [])
                if not isinstance(told, Bench):
                    hash(told)
