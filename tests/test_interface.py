"""The names and arguments of the interface, and [A3] as far as it speaks of all functions."""

import inspect
import unittest
from copy import deepcopy
from importlib import import_module

from tests.samples import ODD_VALUES, ROW
from unevenroads.errors import UnevenError

# For each module its functions, their arguments, and some calls.
INTERFACE = {
    "webs": [
        ("web_error", "value", [[ROW], [(4, [[0, 1]], {"a": [1]})]] + [[value] for value in ODD_VALUES]),
        ("roads_at", "web place", [[ROW, 1]]),
        ("steps_from", "web place", [[ROW, 1]]),
    ],
    "shapes": [
        ("path_web", "n most", [[4, 2], [1, 2]]),
        ("ring_web", "n most", [[4, 2], [2, 2]]),
        ("full_web", "n most", [[4, 2], [10, 2]]),
        ("board_web", "rows columns most", [[2, 3, 2], [0, 3, 2]]),
    ],
    "standings": [
        ("standing_error", "web value", [[ROW, (0, 1, 2)]] + [[ROW, value] for value in ODD_VALUES]),
        ("sums_of", "web standing", [[ROW, (0, 1, 2)]]),
        ("is_even", "web standing", [[ROW, (0, 1, 2)]]),
        ("unlike_roads", "web standing", [[ROW, (0, 1, 2)]]),
    ],
    "webtexts": [
        ("web_text", "web", [[ROW]]),
        ("read_web", "value", [["2 0-1:9"]] + [[value] for value in ODD_VALUES]),
        ("standing_text", "standing", [[(0, 1, 2)]]),
        ("read_standing", "web value", [[ROW, "012"]] + [[ROW, value] for value in ODD_VALUES]),
    ],
}


def outcome(function, arguments, names):
    """What a call returns, or the class of the error that it raises."""
    try:
        if names:
            return function(**dict(zip(names, arguments)))
        return function(*arguments)
    except UnevenError as error:
        return error.__class__


class InterfaceTest(unittest.TestCase):

    def each(self):
        for module, functions in INTERFACE.items():
            told = import_module("unevenroads." + module)
            for name, words, calls in functions:
                yield module, getattr(told, name), words.split(), calls

    def test_each_function_is_defined_in_its_file(self):
        for module, function, words, _ in self.each():
            self.assertTrue(inspect.isfunction(function))
            self.assertEqual(function.__module__, "unevenroads." + module)
            parameters = inspect.signature(function).parameters
            self.assertEqual(list(parameters), words, function)
            for parameter in parameters.values():
                self.assertIs(parameter.kind, inspect.Parameter.POSITIONAL_OR_KEYWORD)
                self.assertIs(parameter.default, inspect.Parameter.empty)

    def test_calls_by_place_and_by_name_tell_the_same(self):
        for _, function, words, calls in self.each():
            for arguments in calls:
                ahead = deepcopy(arguments)
                told = outcome(function, arguments, [])
                self.assertEqual(outcome(function, arguments, words), told, (function, arguments))
                self.assertEqual(outcome(function, deepcopy(arguments), []), told, (function, arguments))
                self.assertEqual(repr(arguments), repr(ahead), function)

    def test_what_is_returned_cannot_change(self):
        for _, function, _, calls in self.each():
            for arguments in calls:
                hash(outcome(function, arguments, []))
