"""[M6]: Shell; [M8] as far as it speaks of it."""

import inspect
import unittest
from random import Random
from time import perf_counter

from tests.modelling import Model, error_of, some_edit
from tests.samples import FORK, FULL_4, KITE, ODD_VALUES, PAIR, ROUND_5, ROW, ROW_5, STAR
from tests.logtexts import edit_told, text_of
from tests.walking import let_here, some_standing
from unevenroads.errors import UnevenError
from unevenroads.joining import class_of
from unevenroads.shapes import full_web
from unevenroads.shells import Shell


class Mirror:
    """What a shell should answer: by the model of a bench."""

    def __init__(self):
        self.model = Model()

    def say(self, line):
        if not isinstance(line, str):
            return "what"
        try:
            return self.told(line)
        except UnevenError as error:
            return "error " + error_of(error)[0]

    def told(self, line):
        if line in ("undo", "redo"):
            return "version " + str(getattr(self.model, line)())
        if line == "names":
            return " ".join(sorted(self.model.names[-1])) or "none"
        if line.startswith("do ") and edit_told(line[3:]) is not None:
            return "version " + str(self.model.edit(edit_told(line[3:])))
        word, blank, rest = line.partition(" ")
        if word == "joined":
            name, blank, figures = rest.partition(" ")
            if name and figures and not [sign for sign in figures if sign not in "0123456789"]:
                return "yes" if self.model.joined(name, tuple([int(figure) for figure in figures])) else "no"
        elif word in ("lets", "class", "size", "show") and rest and " " not in rest:
            return self.asked(word, rest)
        return "what"

    def asked(self, word, name):
        web, standing = self.model.entry(name)
        if word == "show":
            return "".join([str(load) for load in standing])
        if word == "size":
            return str(self.model.size(name))
        if word == "class":
            return " ".join([str(item) for item in class_of(web, standing)])
        return " ".join([str(road) + ("+" if by == 1 else "-") for (road, by), _ in let_here(web, standing)]) or "none"


class ShellsTest(unittest.TestCase):

    def shell_with(self, names):
        """A shell in which webs with standings have these names."""
        shell = Shell()
        for at, (name, web, standing) in enumerate(names):
            self.assertEqual(shell.say("do " + text_of(("add", name, web, standing))), f"version {at + 1}")
        return shell

    def test_examples(self):
        s = Shell()
        lines = ["names", "do (add,row,(3,((0,1),(1,2)),(1,2)),(1,0))", "lets row", "class row", "size row",
                 "joined row 02"]
        self.assertEqual([s.say(line) for line in lines], ["none", "version 1", "1+", "rest", "5", "yes"])
        lines = ["do (lay,row,1)", "show row", "lets row", "joined row 03", "size air", "do (lay,row)", "lets", 7]
        self.assertEqual([s.say(line) for line in lines],
                         ["version 2", "11", "0- 1- 1+", "error BadStanding", "error NoName", "what", "what", "what"])

    def test_say_stands_in_the_class(self):
        self.assertEqual(Shell.__module__, "unevenroads.shells")
        self.assertEqual(list(inspect.signature(vars(Shell)["say"]).parameters)[1:], ["line"])
        self.assertEqual(Shell().say(line="names"), "none")

    def test_each_shell_has_a_bench_of_its_own(self):
        one, other = Shell(), Shell()
        one.say("do (add,row,(2,((0,1)),(1)),(1))")
        self.assertEqual((one.say("names"), other.say("names")), ("row", "none"))

    def test_answers(self):
        s = self.shell_with([("row", ROW_5, (1, 0, 0, 0)), ("star", STAR, (0, 0, 0, 1, 1, 1)), ("pair", PAIR, (7,)),
                             ("full", full_web(7, 1), (1,) + (0,) * 20), ("bare", full_web(7, 1), (0,) * 21)])
        right = {"names": "bare full pair row star", "class row": "walls 2", "class star": "near", "class pair": "even",
                 "class full": "rest", "class bare": "even", "size row": "10", "size star": "7", "size pair": "1",
                 "size full": "error TooMany", "size bare": "1", "lets row": "1+", "lets pair": "none",
                 "lets star": "0+ 1+ 2+",
                 "show row": "1000", "show pair": "7", "show bare": "0" * 21, "joined row 0001": "yes",
                 "joined row 1010": "no", "joined pair 7": "yes", "joined pair 6": "no", "joined row 1000": "yes",
                 "redo": "error NothingToRedo", "undo": "version 4"}
        for line, answer in right.items():
            self.assertEqual(s.say(line), answer, line)
        self.assertEqual([s.say("undo") for _ in range(5)], ["version 3", "version 2", "version 1", "version 0",
                                                             "error NothingToUndo"])
        self.assertEqual([s.say("names"), s.say("redo"), s.say("names")], ["none", "version 1", "row"])

    def test_errors(self):
        s = self.shell_with([("row", ROW_5, (1, 0, 0, 0))])
        right = {"do (drop,air)": "NoName", "do (call,row,row)": "Taken", "do (call,row,5)": "Unfit",
                 "do (add,b,(2,((0,1)),(1)),(2))": "BadStanding", "do (add,b,5,5)": "BadWeb", "do (add,5,5,5)": "Unfit",
                 "do (lay,row,0)": "Unfit", "do (take,row,5)": "Unfit", "do (go,row,((1,1),(1,1)))": "Unfit",
                 "do (widen,row,4)": "Unfit", "do (batch,5)": "BadBatch", "do (batch,((drop,air)))": "Rejected",
                 "do (drop,abcdefghijkl)": "NoName", "do (drop,())": "NoName", "do (drop,-5)": "NoName",
                 "lets air": "NoName", "class air": "NoName", "size air": "NoName", "show air": "NoName",
                 "joined air 0": "NoName", "joined row 1": "BadStanding", "joined row 10000": "BadStanding",
                 "joined row 2000": "BadStanding", "joined row " + "1" * 9000: "BadStanding", "size \n": "NoName",
                 "joined A 5": "NoName", "size row\n": "NoName", "lets (row)": "NoName", "show " + "a" * 9000: "NoName"}
        for line, error in right.items():
            self.assertEqual(s.say(line), "error " + error, line)
        self.assertEqual((s.say("show row"), s.say("redo"), s.say("undo")),
                         ("1000", "error NothingToRedo", "version 0"))
        full = self.shell_with([(name, PAIR, (0,)) for name in "abcdefgh"])
        self.assertEqual(full.say("do (add,ninth,(2,((0,1)),(1)),(1))"), "error TooMany")
        for at in range(9, 41):
            self.assertEqual(full.say("do (batch,())"), f"version {at}")
        self.assertEqual(full.say("do (drop,a)"), "error TooManyEdits")

    def test_lines_that_are_none(self):
        s = self.shell_with([("row", ROW_5, (1, 0, 0, 0)), ("a", PAIR, (0,))])
        lines = ["", " ", "\n", "what", "version 1", "Names", "names ", " names", "names row", "names\n", "undo ",
                 " undo", "undo 1", "undo\n", "redo ", "Redo", "do", "do ", "do  (drop,row)", "do (drop,row) ",
                 " do (drop,row)", "do(drop,row)", "do (drop,row)\n", "do (drop,-0)", "do (drop,row", "do (undo)",
                 "do drop row", "do row", "do (drop,a)\n(drop,row)", "do (drop, row)", "do (drop,1000000)",
                 "do (drop,abcdefghijklm)", "lets", "lets ", "lets  row", "lets row ", " lets row", "lets row row",
                 "Lets row", "class", "class ", "class row 2", "size", "size ", "size  row", "show", "show ",
                 "show  row", "show row row", "joined", "joined ", "joined row", "joined row ", "joined  0000",
                 "joined row  0000", "joined row 0000 ", "joined row 00 00", "joined row 00a0", "joined row -1",
                 "joined row 0000\n", "joined row\n0000", "joined 0000", "joined row +000", "joined  row 0000",
                 "joined air x", "made row", "at 0", "version", "attempt", "copy", "drop row", "(drop,row)", "row"]
        for line in lines + [value for value in ODD_VALUES if not isinstance(value, str)]:
            self.assertEqual(s.say(line), "what", line)
        for value in [["names"], ("names",), b"names", {"names": 1}, None, True, 7]:
            self.assertEqual(s.say(value), "what")
        self.assertEqual((s.say("names"), s.say("undo")), ("a row", "version 1"))

    def some_line(self, dice, model):
        """A line, drawn."""
        names = sorted(model.names[-1]) * 4 + ["row", "air", "", "A b"]
        name = dice.choice(names)
        word = dice.choice(["do"] * 6 + ["undo", "redo", "names", "lets", "class", "size", "show", "joined", "joined"])
        if word == "do":
            return "do " + text_of(some_edit(dice, model))
        if word in ("undo", "redo", "names"):
            return word
        if word == "joined":
            entry = model.names[-1].get(name)
            figures = "".join([str(load) for load in some_standing(entry[0], dice)]) if entry else "0000"
            return f"joined {name} {dice.choice([figures, figures, figures[1:], figures + '1'])}"
        return f"{word} {name}"

    def test_drawn_lines(self):
        dice = Random(191)
        for _ in range(60):
            shell, mirror = Shell(), Mirror()
            for _ in range(60):
                line = self.some_line(dice, mirror.model)
                if dice.random() < 0.1:
                    at, sign = dice.randrange(len(line) + 1), dice.choice(" \n(),0a-")
                    line = dice.choice([line[:at] + sign + line[at:], line[:at] + line[at + 1:]])
                self.assertEqual(shell.say(line), mirror.say(line), line)

    def test_answers_for_all_kinds_of_webs(self):
        dice = Random(192)
        for web in (ROW, ROW_5, STAR, FORK, KITE, FULL_4, ROUND_5, PAIR):
            for _ in range(5):
                shell, mirror = Shell(), Mirror()
                lines = ["do " + text_of(("add", "x", web, some_standing(web, dice))), "lets x", "class x", "size x",
                         "show x"]
                lines.append("joined x " + "".join([str(load) for load in some_standing(web, dice)]))
                for line in lines:
                    answer = shell.say(line)
                    self.assertEqual(answer, mirror.say(line))
                    self.assertFalse(answer.startswith("error") or answer == "what")

    def test_no_call_takes_long(self):
        begin = perf_counter()
        s = self.shell_with([("row", ROW_5, (1, 0, 0, 0))])
        for line in (" " * 10 ** 6, "joined row " + "0" * 10 ** 6, "do " + "(" * 10 ** 6,
                     "do (drop," + "a" * 10 ** 6 + ")",
                     "lets " + "x" * 10 ** 6, "do (go,row,(" + "(1,1),(1,-1)," * 10000 + "(1,1)))"):
            self.assertIn(s.say(line), ("what", "error NoName", "error BadStanding", "version 2"))
        self.assertEqual(s.say("show row"), "1100")
        self.assertLess(perf_counter() - begin, 8)
