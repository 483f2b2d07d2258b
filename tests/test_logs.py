"""[M5]: log_text, read_log, bench_behind; [M8] as far as it speaks of them."""

import unittest
from random import Random
from time import perf_counter

from tests.logtexts import WORDS, edit_told, text_of
from tests.modelling import Model, one_call, outcome
from tests.samples import ODD_VALUES, PAIR, ROW_5, nested
from unevenroads.benches import Bench
from unevenroads.errors import BadLog
from unevenroads.logs import bench_behind, log_text, read_log


class LogsTest(unittest.TestCase):

    def bad(self, place, function, value):
        with self.assertRaises(BadLog) as caught:
            function(value)
        self.assertEqual((caught.exception.place, type(caught.exception.place)), (place, int), value)

    def check(self, log):
        """What is told of a log, line by line."""
        edits = []
        for place, line in enumerate(log.split("\n")[:-1]):
            edit = edit_told(line)
            if edit is None:
                self.bad(place, read_log, log)
                return
            edits.append(edit)
        self.assertEqual(repr(read_log(log)), repr(tuple(edits)), log)

    def some_log(self, seed, steps):
        """The log of a bench with drawn edits."""
        dice, bench, model = Random(seed), Bench(), Model()
        for _ in range(steps):
            one_call(dice, bench, model, 300)
        return bench

    def test_examples(self):
        b = Bench()
        b.add("row", ROW_5, (1, 0, 0, 0))
        b.lay("row", 1)
        b.take("row", 0)
        self.assertEqual(log_text(b.log[:2]),
                         "(add,row,(5,((0,1),(1,2),(2,3),(3,4)),(1,1,1,1)),(1,0,0,0))\n(lay,row,1)\n")
        self.assertEqual(read_log("(take,row,0)\n(lay,row"), (("take", "row", 0),))
        self.assertEqual(read_log("(go,row,((0,1),(1,-1)))\n(batch,())\n"),
                         (("go", "row", ((0, 1), (1, -1))), ("batch", ())))
        self.assertEqual(bench_behind(read_log(log_text(b.log))), b)
        self.assertEqual(bench_behind(()), Bench())
        self.bad(1, read_log, "(drop,row)\n(drop,-0)\n")
        self.bad(0, bench_behind, (("drop", "row"),))

    def test_by_name(self):
        self.assertEqual(log_text(edits=()), "")
        self.assertEqual(read_log(value=""), ())
        self.assertEqual(bench_behind(edits=(("batch", ()),)).version, 1)

    def test_logs_of_benches(self):
        for seed in range(60):
            bench = self.some_log(seed, 60)
            text = log_text(bench.log)
            self.assertEqual(text, "".join([text_of(edit) + "\n" for edit in bench.log]))
            self.assertEqual(read_log(text), bench.log)
            again = bench_behind(bench.log)
            self.assertEqual((again, again.log, again.version), (bench, bench.log, bench.version))
            self.assertIsInstance(again, Bench)
            versions = range(bench.version + 1)
            self.assertEqual([again.at(k) for k in versions], [bench.at(k) for k in versions])
            bench.attempt(lambda one: outcome(one.undo))
            self.assertEqual(bench_behind(bench.log), bench)

    def test_logs_cut_anywhere(self):
        bench = self.some_log(3, 40)
        text = log_text(bench.log)
        for cut in range(len(text) + 1):
            begun = text[:cut]
            self.assertEqual(read_log(begun), bench.log[:begun.count("\n")])
        for tail in ("(", "no line", "(drop,-0)", ")", " ", "((((", "(drop,row)", "0" * 9000):
            self.assertEqual(read_log(text + tail), bench.log)

    def test_signs_left_out_put_in_and_exchanged(self):
        dice = Random(181)
        lines = ["(add,row,(5,((0,1),(1,2)),(1,9)),(1,0))", "(go,row,((0,1),(1,-1)))", "(batch,((drop,a),(lay,b,3)))",
                 "(batch,())", "(call,row,line)", "(lay,row,-999)", "(take,row,999999)", "(widen,a,0)", "(drop,())",
                 "(drop,((),(a,(1))))"]
        for line in lines:
            self.check(line + "\n")
            self.assertEqual(len(read_log(line + "\n")), 1)
            for at in range(len(line) + 1):
                self.check(line[:at] + line[at + 1:] + "\n")
                for sign in "(),-0159az \n":
                    self.check("(drop,a)\n" + line[:at] + sign + line[at:] + "\n")
                    self.check(line[:at] + sign + line[at + 1:] + "\n(drop,a)\n")
        for _ in range(3000):
            line = dice.choice(lines)
            for _ in range(dice.randint(1, 3)):
                at, sign = dice.randrange(len(line) + 1), dice.choice("(),-019abz (),")
                rests = [sign + line[at:], line[at + 1:], sign + line[at + 1:]]
                line = line[:at] + dice.choice(rests)
            self.check(line + "\n")

    def test_numbers(self):
        for number in list(range(-1003, 12)) + [99, 100, 999998, 999999, 1000000, 1000001, 10 ** 7, -10 ** 6, 123456]:
            log = f"(drop,{number})\n"
            self.check(log)
            if -999 <= number <= 999999:
                self.assertEqual(read_log(log), (("drop", number),))
                self.assertEqual(log_text((("drop", number),)), log)
            else:
                self.bad(0, read_log, log)
        for text in ("-0", "00", "01", "-01", "007", "+1", "1.0", "--1", "-", "1-", "1_0", "0x1", "1a", "a1", "1 ",
                     " 1", "9" * 5000, "-" + "9" * 5000, "0" * 5000, "000001", "0000001", "1e3"):
            self.bad(0, read_log, f"(drop,{text})\n")
            self.bad(2, read_log, f"(drop,a)\n(drop,a)\n(drop,{text})\n(drop,b)\n")

    def test_words(self):
        for many in range(1, 12):
            word = "abcdefghijkl"[:many]
            self.assertEqual(read_log(f"(drop,{word})\n"), (("drop", word),))
        self.assertEqual(read_log("(drop,abcdefghijkl)\n"), (("drop", "abcdefghijkl"),))
        self.assertEqual(log_text((("drop", "zzzzzzzzzzzz"),)), "(drop,zzzzzzzzzzzz)\n")
        for word in ("abcdefghijklm", "", "A", "Row", "a_b", "a b", "'a'", "\"a\"", "a.b", "None", "True", "z" * 5000,
                     "a\\n"):
            self.bad(0, read_log, f"(drop,{word})\n")

    def test_brackets(self):
        for depth in range(1, 20):
            value = nested(depth)
            self.assertEqual(read_log("(drop," + "(" * depth + ")" * depth + ")\n"), (("drop", value),))
            self.assertEqual(log_text((("drop", value),)), "(drop," + "(" * depth + ")" * depth + ")\n")
        self.bad(0, read_log, "(drop," + "(" * 20 + ")" * 20 + ")\n")
        self.bad(0, read_log, "(drop,(a),(" * 20 + ")" * 60 + "\n")
        self.bad(0, read_log, "(" * 100000 + "\n")
        self.bad(0, read_log, ")" * 100000 + "\n")
        deep = "(drop," + "(" * 17 + "((),())" + ")" * 17 + ")\n"
        self.check(deep)
        self.assertEqual(log_text(read_log(deep)), deep)
        for text in ("(drop,(a)", "(drop,a))", "drop,a", "((drop,a))", "(drop,a)(drop,a)", "(drop,(,))", "(drop,(a,))",
                     "(drop,a,)", "(,drop,a)", "(drop,(a)b)", "(drop,a(b))", "()", "(())", "a", "5", "", " ",
                     "(drop,a) ",
                     " (drop,a)", "(drop, a)", "(drop,[a])", "(drop,())()", "(drop,)a(", ")drop,a(", "(drop,a)\r"):
            self.bad(0, read_log, text + "\n")

    def test_words_of_edits_and_how_many_arguments(self):
        for word, many in WORDS.items():
            for given in range(6):
                line = "(" + ",".join([word] + ["a", "()", "5", "b", "(1,2)"][:given]) + ")\n"
                if given == many:
                    self.assertEqual(len(read_log(line)[0]), 1 + many)
                else:
                    self.bad(0, read_log, line)
        for word in ("undo", "redo", "size", "do", "copy", "Add", "adds", "ad", "5", "(add)", ""):
            for given in range(4):
                self.bad(0, read_log, "(" + ",".join([word] + ["a"] * given) + ")\n")

    def test_what_is_no_string(self):
        for value in ODD_VALUES + [["(drop,a)\n"], ("(drop,a)\n",), {"(drop,a)\n": 1}]:
            if isinstance(value, str):
                self.check(value)
            else:
                self.bad(0, read_log, value)
        self.assertEqual((read_log(""), read_log("a"), read_log("(drop,a)")), ((), (), ()))
        self.bad(0, read_log, "\n")
        self.bad(1, read_log, "(drop,a)\n\n")
        self.bad(1, read_log, "(drop,a)\n\n(drop,a)\n")

    def test_edits_that_can_not_be_done(self):
        add = ("add", "row", ROW_5, (1, 0, 0, 0))
        for place, edits in [(0, (("drop", "row"), add)), (1, (add, add)), (1, (add, ("lay", "row", 0))),
                             (0, (("batch", 5),)),
                             (1, (add, ("batch", (("drop", "x"),)))), (0, (("add", [], {}, None),)),
                             (2, (add, ("drop", "row"), ("drop", "row"))), (0, (("batch", [add]),)),
                             (1, (add, ("go", "row", nested(18)))), (1, (add, ("widen", "row", True))),
                             (0, (("call", nested(40), None),)), (1, (add, ("batch", (("batch", ()),))))]:
            self.bad(place, bench_behind, edits)
        for value in ODD_VALUES:
            self.bad(1, bench_behind, (add, ("drop", value)))
            self.bad(0, bench_behind, (("add", "row", value, value),))
        forty = (add,) + (("lay", "row", 1), ("take", "row", 1)) * 19 + (("batch", ()),)
        self.assertEqual(bench_behind(forty).log, forty)
        self.bad(40, bench_behind, forty + (("drop", "row"),))
        nine = tuple([("add", name, PAIR, (0,)) for name in "abcdefghi"])
        self.assertEqual(len(bench_behind(nine[:8])), 8)
        self.bad(8, bench_behind, nine)

    def test_no_call_takes_long(self):
        begin = perf_counter()
        line = "(batch,(" + ",".join(["(go,row,((0,1),(1,-1)))"] * 5000) + "))\n"
        self.assertEqual(len(read_log(line * 5)), 5)
        self.assertEqual(log_text(read_log(line * 2)), line * 2)
        self.bad(0, read_log, "(drop," + "a" * 10 ** 6 + ")\n")
        self.bad(0, read_log, "," * 10 ** 6 + "\n")
        self.assertEqual(len(read_log("(drop,a)\n" * 20000)), 20000)
        self.assertLess(perf_counter() - begin, 8)
