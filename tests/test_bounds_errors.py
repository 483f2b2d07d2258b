"""The names and numbers of unevenroads.bounds and unevenroads.errors."""

import unittest

from unevenroads import bounds, errors

BOUNDS = {
    "MAX_PLACES": 24, "MAX_ROADS": 40, "MAX_LOAD": 9, "MAX_SEEN": 2000, "MAX_DRAWS": 12, "MAX_MEAN": 40,
    "MAX_GAME": 300, "MAX_NAMES": 8, "BATCH": 12, "MAX_EDITS": 40,
}

ERRORS = {
    "BadWeb": "error", "BadStanding": "error", "BadText": None, "Unfit": None, "NotJoined": "paper",
    "TooMany": "limit", "NoName": "given", "Taken": "given", "BadBatch": None, "Rejected": "place",
    "TooManyEdits": None, "NothingToUndo": None, "NothingToRedo": None, "NoVersion": "given", "BadLog": "place",
}

KEPT = [None, True, 0, -7, 10 ** 400, "form", "", ("road", 1), ("walls", 4, 2), [1, [2]], {"a": (1,)}, (), []]


class BoundsTest(unittest.TestCase):

    def test_numbers(self):
        for name, number in BOUNDS.items():
            told = getattr(bounds, name)
            self.assertEqual((name, told, type(told)), (name, number, int))


class ErrorsTest(unittest.TestCase):

    def test_base(self):
        self.assertEqual(errors.UnevenError.__bases__, (ValueError,))
        self.assertEqual(errors.UnevenError.__module__, "unevenroads.errors")

    def test_each_stands_directly_under_the_base(self):
        for name in ERRORS:
            made = getattr(errors, name)
            self.assertEqual((name, made.__bases__), (name, (errors.UnevenError,)))
            self.assertEqual((made.__name__, made.__module__), (name, "unevenroads.errors"))

    def test_no_further_errors(self):
        found = [name for name, value in vars(errors).items() if isinstance(value, type)]
        self.assertEqual(sorted(found), sorted(list(ERRORS) + ["UnevenError"]))

    def test_made_by_place_and_by_name(self):
        for name, word in ERRORS.items():
            made = getattr(errors, name)
            if word is None:
                self.assertIsInstance(made(), ValueError)
                continue
            for value in KEPT:
                self.assertIs(getattr(made(value), word), value)
                self.assertIs(getattr(made(**{word: value}), word), value)
            self.assertRaises(TypeError, made)
            self.assertRaises(TypeError, made, 1, 2)
            self.assertRaises(TypeError, made, **{"other": 1})

    def test_raised_and_caught(self):
        for name, word in ERRORS.items():
            made = getattr(errors, name)
            with self.assertRaises(errors.UnevenError) as caught:
                raise made() if word is None else made(("even", 0))
            self.assertIs(type(caught.exception), made)
            self.assertIsInstance(str(caught.exception), str)
