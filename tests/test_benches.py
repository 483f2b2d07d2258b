"""[M1] to [M4]: Bench; [M8] as far as it speaks of it."""

import inspect
import unittest
from copy import deepcopy
from random import Random
from time import perf_counter

from tests.modelling import Model, done_by, one_call, outcome, shelf_of
from tests.samples import (FORK, FULL_4, GREAT, KITE, ODD_VALUES, PAIR, ROUND_5, ROW, ROW_5, STAR, WIDE_FORK, nested,
                           wandered)
from tests.walking import let_here, some_standing
from unevenroads import errors
from unevenroads.benches import Bench
from unevenroads.deeds import deed_error, let_deeds
from unevenroads.joining import joined
from unevenroads.shapes import full_web, path_web, ring_web
from unevenroads.standings import standing_error
from unevenroads.webs import web_error

WIDE = (5, ROW_5[1], (1, 1, 1, 9))
NO_NAMES = ["", "A", "Row", "row1", "a b", "abcdefghi", "row\n", " ", "-", "_", True, 0, None, (), ["row"], ("row",),
            {"row": 1}, nested(12), "z" * 5000]


class BenchesTest(unittest.TestCase):

    def agree(self, bench, model):
        self.assertEqual(bench.shelf, shelf_of(model.names[-1]))
        self.assertEqual((bench.version, bench.log), (len(model.edits), tuple(model.edits)))
        self.assertEqual(bench.made, len(model.told))
        self.assertEqual(list(bench), sorted(model.names[-1]))
        self.assertEqual(len(bench), len(model.names[-1]))
        hash((bench.shelf, bench.log))

    def raises(self, error, function, *arguments):
        """Whether the call raises just this error."""
        self.assertEqual(outcome(function, *arguments), ("raised", error), arguments)

    def unchanged(self, bench, error, function, *arguments):
        """Whether the call raises this error and changes nothing of the bench."""
        ahead = (bench.shelf, bench.version, bench.log, bench.made, bench._undone)
        self.raises(error, function, *arguments)
        self.assertEqual((bench.shelf, bench.version, bench.log, bench.made, bench._undone), ahead)

    def test_examples(self):
        b = Bench()
        self.assertEqual([b.add("row", ROW_5, (1, 0, 0, 0)), b.size("row"), b.lay("row", 1), b.take("row", 0),
                          b.size("row"), b.made, b["row"][1], b.lets("row")],
                         [1, 10, 2, 3, 10, 1, (0, 1, 0, 0), ((0, 1), (2, 1))])
        self.assertEqual([b.widen("row", 3), b.size("row"), b.undo(), b.joined("row", (0, 1, 0, 1)), b.redo(),
                          b.joined("row", (0, 1, 0, 1)), b.made], [4, 23, 3, False, 4, True, 2])
        self.assertEqual([b.go("row", ((0, 1), (1, -1))), b["row"][1], b.log[-1], list(b), b.at(1) == b.shelf],
                         [5, (1, 0, 0, 0), ("go", "row", ((0, 1), (1, -1))), ["row"], False])
        self.raises(("Unfit",), b.take, "row", 1)
        self.raises(("Rejected", 1), b.batch, (("call", "row", "line"), ("drop", "row")))
        self.raises(("NoName", "line"), b.__getitem__, "line")

    def test_methods_stand_in_the_class(self):
        words = {"add": "name web standing", "drop": "name", "call": "name other", "lay": "name road",
                 "take": "name road", "go": "name way", "widen": "name road", "batch": "edits", "size": "name",
                 "joined": "name standing", "lets": "name", "undo": "", "redo": "", "at": "version", "copy": "",
                 "attempt": "work"}
        self.assertEqual(Bench.__module__, "unevenroads.benches")
        for name, arguments in words.items():
            self.assertTrue(inspect.isfunction(vars(Bench)[name]), name)
            parameters = list(inspect.signature(vars(Bench)[name]).parameters.values())[1:]
            self.assertEqual([parameter.name for parameter in parameters], arguments.split())
            for parameter in parameters:
                self.assertIs(parameter.kind, inspect.Parameter.POSITIONAL_OR_KEYWORD)
        for name in ("__len__", "__getitem__", "__iter__", "__eq__", "shelf", "version", "log", "made"):
            self.assertIn(name, vars(Bench))

    def test_by_name(self):
        b = Bench()
        self.assertEqual(b.add(name="row", web=ROW_5, standing=(1, 0, 0, 0)), 1)
        self.assertEqual(b.call(name="row", other="line"), 2)
        self.assertEqual(b.lay(name="line", road=1), 3)
        self.assertEqual(b.take(name="line", road=0), 4)
        self.assertEqual(b.go(name="line", way=((0, 1),)), 5)
        self.assertEqual(b.widen(name="line", road=3), 6)
        self.assertEqual(b.batch(edits=()), 7)
        self.assertEqual((b.size(name="line"), b.joined(name="line", standing=(1, 0, 0, 0))), (23, True))
        self.assertEqual(b.lets(name="line"), ((0, -1), (1, -1), (2, 1)))
        self.assertEqual((b.at(version=0), b.attempt(work=len)), ((), 1))
        self.assertEqual(b.drop(name="line"), 8)

    def test_an_empty_bench(self):
        b = Bench()
        self.assertEqual((b.shelf, b.version, b.log, b.made, len(b), list(b), b.at(0)), ((), 0, (), 0, 0, [], ()))
        self.raises(("NothingToUndo",), b.undo)
        self.raises(("NothingToRedo",), b.redo)
        for name in NO_NAMES + ["row"]:
            for function in (b.__getitem__, b.drop, b.size, b.lets):
                self.unchanged(b, ("NoName", name), function, name)
            for function in (b.call, b.lay, b.take, b.go, b.widen, b.joined):
                self.unchanged(b, ("NoName", name), function, name, None)

    def test_properties_can_only_be_read(self):
        b = Bench()
        for name in ("shelf", "version", "log", "made"):
            with self.assertRaises(AttributeError):
                setattr(b, name, ())

    def test_names_come_ascending(self):
        b = Bench()
        for name in ("row", "a", "zzzzzzzz", "line", "m"):
            b.add(name, ROW_5, (1, 0, 0, 0))
        self.assertEqual(list(b), ["a", "line", "m", "row", "zzzzzzzz"])
        self.assertEqual([name for name, _, _ in b.shelf], list(b))
        b.call("a", "xa")
        b.lay("row", 1)
        self.assertEqual(list(b), ["line", "m", "row", "xa", "zzzzzzzz"])
        self.assertEqual(b["row"], (ROW_5, (1, 1, 0, 0)))
        self.assertEqual((b["xa"], len(b)), ((ROW_5, (1, 0, 0, 0)), 5))

    def test_errors_of_add_in_their_order(self):
        b = Bench()
        bad_web, bad = (4, ((0, 1), (1, 2), (2, 3)), (1, 1)), (1, 0, 3)
        for name in NO_NAMES:
            self.unchanged(b, ("Unfit",), b.add, name, bad_web, bad)
            self.unchanged(b, ("Unfit",), b.add, name, ROW, (1, 0, 2))
        b.add("row", ROW, (1, 0, 2))
        for name in ("row", "other"):
            self.unchanged(b, ("BadWeb", "bounds"), b.add, name, bad_web, bad)
            self.unchanged(b, ("BadStanding", ("load", 2)), b.add, name, ROW, bad)
            for value in ODD_VALUES + [list(ROW), (4.0,)]:
                if web_error(value) is not None:
                    self.unchanged(b, ("BadWeb", web_error(value)), b.add, name, value, ())
            for value in [(1, 0, True), [1, 0, 2], (1, 0)] + [value for value in ODD_VALUES if value != (0, 0, 0)]:
                self.unchanged(b, ("BadStanding", standing_error(ROW, value)), b.add, name, ROW, value)
        self.unchanged(b, ("Taken", "row"), b.add, "row", PAIR, (1,))
        for name in "bcdefgh":
            b.add(name, PAIR, (1,))
        self.assertEqual((len(b), b.version), (8, 8))
        self.unchanged(b, ("Taken", "row"), b.add, "row", PAIR, (1,))
        self.unchanged(b, ("TooMany", 8), b.add, "ninth", PAIR, (1,))
        self.unchanged(b, ("BadStanding", "form"), b.add, "ninth", PAIR, ())
        b.drop("c")
        self.assertEqual(b.add("ninth", PAIR, (1,)), 10)

    def test_errors_of_all_edits(self):
        b = Bench()
        b.add("row", ROW_5, (1, 0, 0, 0))
        b.add("wide", WIDE, (1, 0, 0, 0))
        for other in NO_NAMES:
            self.unchanged(b, ("Unfit",), b.call, "row", other)
        self.unchanged(b, ("Taken", "row"), b.call, "row", "row")
        self.unchanged(b, ("Taken", "wide"), b.call, "row", "wide")
        for value in ODD_VALUES + [0, 2, 3, 4, -1, True, (1,), [1], "1", GREAT]:
            for function, by in ((b.lay, 1), (b.take, -1)):
                if deed_error(ROW_5, (1, 0, 0, 0), (value, by)) is not None:
                    self.unchanged(b, ("Unfit",), function, "row", value)
        self.unchanged(b, ("Unfit",), b.lay, "row", True)
        self.unchanged(b, ("Unfit",), b.take, "row", 1)
        for value in ODD_VALUES + [((1, 1), (1, 1)), [(1, 1)], ((0, -1),), ([1, 1],), ((True, 1),), ((1, True),),
                                   (1, 1)]:
            if value != ():
                self.unchanged(b, ("Unfit",), b.go, "row", value)
        for value in ODD_VALUES + [4, -1, True, False, "0", (0,), GREAT]:
            if type(value) is not int or not 0 <= value < 4:
                self.unchanged(b, ("Unfit",), b.widen, "row", value)
        self.unchanged(b, ("Unfit",), b.widen, "wide", 3)
        for name in NO_NAMES + ["other"]:
            for function in (b.call, b.lay, b.take, b.go, b.widen):
                for value in (None, "row", (), 0, "A"):
                    self.unchanged(b, ("NoName", name), function, name, value)
        self.assertEqual((b.go("row", ()), b.widen("wide", 0), b["wide"][0][2]), (3, 4, (2, 1, 1, 9)))

    def test_widened_roads(self):
        b = Bench()
        b.add("pair", (2, ((0, 1),), (7,)), (7,))
        self.assertEqual([b.widen("pair", 0), b.widen("pair", 0)], [2, 3])
        self.assertEqual(b["pair"], ((2, ((0, 1),), (9,)), (7,)))
        self.unchanged(b, ("Unfit",), b.widen, "pair", 0)

    def test_batches(self):
        b = Bench()
        twelve = (("add", "a", ROW_5, (1, 0, 0, 0)),) + (("lay", "a", 1), ("take", "a", 1)) * 5 + (("call", "a", "b"),)
        self.assertEqual((len(twelve), b.batch(twelve), b.shelf), (12, 1, (("b", ROW_5, (1, 0, 0, 0)),)))
        self.assertEqual(b.log, (("batch", twelve),))
        self.assertEqual((b.batch(()), b.log[1]), (2, ("batch", ())))
        bad = [twelve + (("drop", "b"),), list(twelve), (list(twelve[0]),), (("batch", ()),), ((),), (None,), ("drop",),
               (("drop",),), (("drop", "b", "c"),), (("lay", "b"),), (("undo",),), (("Drop", "b"),), ((["drop"], "b"),),
               (("go", "b", (), ()),), (("add", "c", ROW_5),), ((1, "b"),), ((None, "b"),), (("drop", "b"), 5),
               (("drop", "none"), ["drop", "b"]), {"drop": "b"}, "drop", ((nested(30), 1),)]
        for value in bad + [value for value in ODD_VALUES if value != ()]:
            self.unchanged(b, ("BadBatch",), b.batch, value)
        for place, edits in [(0, (("drop", "c"),)), (1, (("call", "b", "c"), ("drop", "b"))),
                             (2, (("drop", "b"), ("add", "b", PAIR, (0,)), ("add", "b", PAIR, (0,)))),
                             (0, (("lay", None, None),)), (1, (("lay", "b", 1), ("lay", "b", 1), ("lay", "none", 1))),
                             (11, (("lay", "b", 1), ("take", "b", 1)) * 5 + (("drop", "b"), ("drop", "b"))),
                             (0, (("go", "b", [nested(20)]),)), (0, (("add", "c", None, {}),))]:
            self.unchanged(b, ("Rejected", place), b.batch, edits)
        self.assertEqual((b.undo(), b.undo(), b.shelf, b.redo(), list(b)), (1, 0, (), 1, ["b"]))

    def test_a_batch_of_too_many_names(self):
        b = Bench()
        nine = tuple([("add", name, PAIR, (0,)) for name in "abcdefghi"])
        self.unchanged(b, ("Rejected", 8), b.batch, nine)
        self.assertEqual((b.batch(nine[:8]), len(b)), (1, 8))
        self.assertEqual(b.batch((("drop", "a"), nine[8])), 2)

    def test_forty_edits_and_one_more(self):
        b = Bench()
        b.add("row", ROW_5, (1, 0, 0, 0))
        for at in range(39):
            self.assertEqual(b.lay("row", 1) if at % 2 == 0 else b.take("row", 1), at + 2)
        self.assertEqual(b.version, 40)
        more = [(b.take, "row", 1), (b.add, "other", PAIR, (0,)), (b.drop, "row"), (b.call, "row", "other"),
                (b.go, "row", ()), (b.widen, "row", 0), (b.batch, ()), (b.batch, (("take", "row", 1), ("drop", "row")))]
        for call in more:
            self.unchanged(b, ("TooManyEdits",), *call)
        # What else is wrong is told ahead of it.
        for error, call in [(("Unfit",), (b.lay, "row", 1)), (("NoName", "x"), (b.drop, "x")),
                            (("Taken", "row"), (b.call, "row", "row")), (("Taken", "row"), (b.add, "row", PAIR, (0,))),
                            (("BadBatch",), (b.batch, None)), (("Rejected", 0), (b.batch, (("drop", "x"),)))]:
            self.unchanged(b, error, *call)
        self.assertEqual((b.undo(), b.redo()), (39, 40))
        self.unchanged(b, ("TooManyEdits",), b.batch, ())
        b.undo()
        twelve = (("lay", "row", 1), ("take", "row", 1)) * 6
        self.assertEqual((b.batch(twelve), b.version, b.log[-1]), (40, 40, ("batch", twelve)))
        self.unchanged(b, ("NothingToRedo",), b.redo)
        for version in range(39, -1, -1):
            self.assertEqual(b.undo(), version)
        self.assertEqual(b.shelf, ())
        self.raises(("NothingToUndo",), b.undo)
        for version in range(1, 41):
            self.assertEqual(b.redo(), version)

    def test_undo_and_redo(self):
        b = Bench()
        b.add("row", ROW_5, (1, 0, 0, 0))
        b.lay("row", 1)
        b.lay("row", 2)
        shelves = [b.at(version) for version in range(4)]
        self.assertEqual([b.undo(), b.undo(), b.shelf == shelves[1], b.redo(), b.shelf == shelves[2]],
                         [2, 1, True, 2, True])
        self.unchanged(b, ("Unfit",), b.lay, "row", 0)
        self.assertEqual((b.redo(), b.shelf), (3, shelves[3]))
        b.undo()
        b.take("row", 0)
        self.unchanged(b, ("NothingToRedo",), b.redo)
        self.assertEqual(b["row"][1], (0, 1, 0, 0))

    def test_versions(self):
        b = Bench()
        b.add("row", ROW_5, (1, 0, 0, 0))
        b.lay("row", 1)
        self.assertEqual([b.at(0), b.at(1), b.at(2)], [(), (("row", ROW_5, (1, 0, 0, 0)),), b.shelf])
        for value in [3, -1, True, False, None, "1", (1,), [1], GREAT, -GREAT] + [
                value for value in ODD_VALUES if type(value) is not int or not 0 <= value < 3]:
            self.unchanged(b, ("NoVersion", value), b.at, value)
        b.undo()
        self.unchanged(b, ("NoVersion", 2), b.at, 2)

    def test_sizes_that_are_kept(self):
        b = Bench()
        b.add("row", ROW_5, (1, 0, 0, 0))
        self.assertEqual((b.made, b.size("row"), b.size("row"), b.made), (0, 10, 10, 1))
        b.add("twin", ROW_5, (0, 1, 1, 1))
        self.assertEqual((b.size("twin"), b.made), (10, 1))
        b.add("four", ROW_5, (1, 0, 1, 0))
        self.assertEqual((b.size("four"), b.made), (5, 2))
        b.undo()
        b.undo()
        self.assertEqual((b.made, b.size("row"), b.made), (2, 10, 2))
        b.add("bare", ROW_5, (0, 0, 0, 0))
        self.assertEqual((b.size("bare"), b.made), (1, 3))
        b.add("pair", PAIR, (0,))
        b.add("other", PAIR, (1,))
        self.assertEqual([b.size("pair"), b.made, b.size("other"), b.made, b.size("pair"), b.made], [1, 4, 1, 5, 1, 5])
        b.widen("row", 3)
        self.assertEqual((b.size("row"), b.made), (23, 6))
        b.undo()
        self.assertEqual((b.size("row"), b.made), (10, 6))
        b.add("full", full_web(7, 1), (1,) + (0,) * 20)
        self.unchanged(b, ("TooMany", 2000), b.size, "full")
        b.add("even", full_web(7, 1), (0,) * 21)
        self.assertEqual((b.size("even"), b.made), (1, 7))
        self.unchanged(b, ("NoName", "none"), b.size, "none")
        self.assertEqual((b.joined("row", (0, 0, 0, 1)), b.made), (True, 7))

    def test_questions(self):
        dice = Random(171)
        b = Bench()
        webs = [ROW, ROW_5, STAR, FORK, KITE, FULL_4, ROUND_5, WIDE_FORK]
        for name, web in zip("abcdefgh", webs):
            b.add(name, web, some_standing(web, dice))
        for name, web in zip("abcdefgh", webs):
            standing = b[name][1]
            self.assertEqual(b.lets(name), tuple([deed for deed, _ in let_here(web, standing)]))
            self.assertEqual(b.lets(name), let_deeds(web, standing))
            for _ in range(9):
                other = some_standing(web, dice)
                self.assertIs(b.joined(name, other), joined(web, standing, other))
            for value in ODD_VALUES + [standing[1:], list(standing), (True,) * len(standing)]:
                if standing_error(web, value) is not None:
                    self.raises(("BadStanding", standing_error(web, value)), b.joined, name, value)

    def test_equal_benches(self):
        one, other = Bench(), Bench()
        self.assertTrue(one == other and not one != other)
        one.add("row", ROW_5, (1, 0, 0, 0))
        self.assertTrue(one != other and not one == other)
        other.add("x", ROW_5, (1, 1, 0, 0))
        other.call("x", "row")
        self.assertNotEqual(one, other)
        other.take("row", 1)
        self.assertEqual(one, other)
        self.assertNotEqual(one.log, other.log)
        other.widen("row", 0)
        self.assertNotEqual(one, other)
        for value in ODD_VALUES + [one.shelf, list(one), Bench]:
            self.assertTrue(one != value and not one == value)
            self.assertTrue(value != Bench() and not value == Bench())

    def test_copies(self):
        b = Bench()
        b.add("row", ROW_5, (1, 0, 0, 0))
        b.lay("row", 1)
        b.size("row")
        b.lay("row", 2)
        b.undo()
        twin = b.copy()
        self.assertIsNot(twin, b)
        self.assertIsInstance(twin, Bench)
        self.assertEqual((twin.shelf, twin.log, twin.version, twin.made, twin.at(1)),
                         (b.shelf, b.log, b.version, b.made, b.at(1)))
        self.assertEqual((twin.redo(), b.version, twin["row"][1], b["row"][1]), (3, 2, (1, 1, 1, 0), (1, 1, 0, 0)))
        self.assertEqual((b.redo(), b == twin), (3, True))
        twin.widen("row", 0)
        twin.size("row")
        self.assertEqual((twin.made, b.made, b.version), (2, 1, 3))
        b.undo()
        b.undo()
        b.undo()
        self.assertEqual((twin.version, len(twin), len(b)), (4, 1, 0))
        self.assertEqual((twin.undo(), twin.size("row"), twin.made), (3, 10, 2))
        b.redo()
        self.assertEqual((b.size("row"), b.made), (10, 1))

    def test_attempts(self):
        b = Bench()
        b.add("row", ROW_5, (1, 0, 0, 0))
        b.lay("row", 1)
        b.undo()
        self.assertEqual(b.attempt(lambda bench: (bench is b, bench.version)), (True, 1))
        self.assertIsNone(b.attempt(lambda bench: None))
        ahead = (b.shelf, b.log)

        def refused(bench):
            bench.redo()
            bench.take("row", 0)
            bench.size("row")
            bench.undo()
            bench.undo()
            bench.undo()
            bench.add("line", PAIR, (0,))
            bench.drop("row")

        self.raises(("NoName", "row"), b.attempt, refused)
        self.assertEqual((b.shelf, b.log, b.made), ahead + (1,))
        self.assertEqual((b.redo(), b["row"][1], b.undo()), (2, (1, 1, 0, 0), 1))
        self.assertEqual((b.attempt(lambda bench: bench.lay("row", 1)), b.version), (2, 2))
        self.raises(("NothingToRedo",), b.redo)

    def test_attempts_with_errors_of_other_kinds(self):
        b = Bench()
        b.add("row", ROW_5, (1, 0, 0, 0))
        b.undo()
        for error in (ValueError, KeyError, TypeError, ZeroDivisionError, AssertionError, StopIteration):
            def wrong(bench, error=error):
                bench.add("row", ROW_5, (1, 0, 0, 0))
                raise error("wrong")
            with self.assertRaises(error) as caught:
                b.attempt(wrong)
            self.assertIs(type(caught.exception), error)
            self.assertEqual((b.version, len(b)), (1, 1))
            self.raises(("NothingToRedo",), b.redo)
            b.drop("row")
            b.undo()
            b.undo()
        own = errors.TooMany(5)

        def passed_on(bench):
            bench.add("row", ROW_5, (1, 0, 0, 0))
            raise own
        with self.assertRaises(errors.TooMany) as caught:
            b.attempt(passed_on)
        self.assertIs(caught.exception, own)
        self.assertEqual(len(b), 0)

    def test_attempts_within_attempts(self):
        b = Bench()
        b.add("row", ROW_5, (1, 0, 0, 0))

        def inner(bench):
            bench.lay("row", 2)

        def outer(bench):
            bench.lay("row", 1)
            try:
                bench.attempt(lambda again: (again.drop("row"), inner(again)))
            except errors.NoName:
                pass
            return bench.attempt(inner), bench.version

        self.assertEqual((b.attempt(outer), b["row"][1]), ((None, 3), (1, 1, 1, 0)))
        self.raises(("Unfit",), b.attempt, lambda bench: (outer(bench), bench.version))
        self.assertEqual((b.version, b["row"][1]), (3, (1, 1, 1, 0)))

    def test_nothing_handed_in_changes(self):
        b = Bench()
        handed = [("add", ["row"], {"a": [1]}, [()]), ("batch", [("drop", "row")]), ("go", "row", [[1, 1]])]
        ahead = deepcopy(handed)
        b.add("row", ROW_5, (1, 0, 0, 0))
        for edit in handed:
            outcome(done_by, b, edit)
        self.assertEqual(handed, ahead)
        shelf, log, deeds, at = b.shelf, b.log, b.lets("row"), b.at(1)
        kept = deepcopy((shelf, log, deeds, at))
        b.lay("row", 1)
        b.drop("row")
        self.assertEqual((shelf, log, deeds, at), kept)

    def test_drawn_edits_and_questions(self):
        for seed in range(100):
            dice = Random(seed)
            bench, model = Bench(), Model()
            benches = []
            for _ in range(240):
                told, right = one_call(dice, bench, model, dice.choice((8, 30)) if seed % 2 else 300)
                self.assertEqual(told, right)
                self.agree(bench, model)
                if dice.random() < 0.03:
                    benches.append((bench.copy(), deepcopy(model)))
                if benches and dice.random() < 0.05:
                    bench, model = dice.choice(benches)
            for other, its in benches:
                self.agree(other, its)

    def test_no_call_takes_long(self):
        begin = perf_counter()
        b = Bench()
        for name, web in zip("abcd", (path_web(24, 9), ring_web(24, 1), full_web(9, 9), path_web(24, 1))):
            b.add(name, web, (1,) + (0,) * (len(web[1]) - 1))
            outcome(b.size, name)
            way, _ = wandered(web, b[name][1], 2000, 5)
            b.go(name, way)
        self.assertLess(perf_counter() - begin, 8)
