"""A model of a bench, in the words of [M1] to [M4], and calls that are drawn for both."""

from copy import deepcopy

from tests.samples import FORK, KITE, PAIR, ROUND_5, ROW, ROW_5, STAR, wandered
from tests.walking import some_standing
from unevenroads import errors
from unevenroads.classes import uneven_classes
from unevenroads.deeds import deed_error
from unevenroads.errors import UnevenError
from unevenroads.joining import class_of, joined
from unevenroads.standings import standing_error
from unevenroads.ways import end_of, way_error
from unevenroads.webs import web_error

LETTERS = "abcdefghijklmnopqrstuvwxyz"
ARGUMENTS = {"add": 3, "drop": 1, "call": 2, "lay": 2, "take": 2, "go": 2, "widen": 2}


def error_of(raised):
    """An error as a tuple of the name of its class and of what it keeps."""
    return (type(raised).__name__,) + tuple(vars(raised).values())


def outcome(function, *arguments):
    """What a call returns, or ("raised", its error)."""
    try:
        return function(*arguments)
    except UnevenError as error:
        return ("raised", error_of(error))


def fail(name, *kept):
    """Raises the error of this name."""
    raise getattr(errors, name)(*kept)


def is_name(value):
    """Whether value is a name, in the words of [M1]."""
    return isinstance(value, str) and 0 < len(value) < 9 and not [sign for sign in value if sign not in LETTERS]


def edited(shelf, edit):
    """The dict of names behind an edit, in the words of [M2]; it raises what the edit raises."""
    word, arguments = edit[0], edit[1:]
    if word == "batch":
        return batched(shelf, arguments[0])
    if word == "add":
        name, web, standing = arguments
        if not is_name(name):
            fail("Unfit")
        for error, tell in (("BadWeb", lambda: web_error(web)), ("BadStanding", lambda: standing_error(web, standing))):
            if tell() is not None:
                fail(error, tell())
        if name in shelf:
            fail("Taken", name)
        if len(shelf) == 8:
            fail("TooMany", 8)
        return dict(shelf, **{name: (web, standing)})
    name = arguments[0]
    if not is_name(name) or name not in shelf:
        fail("NoName", name)
    behind = dict(shelf)
    web, standing = behind.pop(name)
    if word == "drop":
        return behind
    if word == "call":
        if not is_name(arguments[1]):
            fail("Unfit")
        if arguments[1] in shelf:
            fail("Taken", arguments[1])
        return dict(behind, **{arguments[1]: (web, standing)})
    return dict(behind, **{name: changed(word, web, standing, arguments[1])})


def changed(word, web, standing, what):
    """The web and the standing of a name behind lay, take, go or widen."""
    if word == "widen":
        if type(what) is not int or not 0 <= what < len(web[1]) or web[2][what] == 9:
            fail("Unfit")
        return (web[0], web[1], web[2][:what] + (web[2][what] + 1,) + web[2][what + 1:]), standing
    way = what
    if word != "go":
        way = ((what, 1 if word == "lay" else -1),)
        if deed_error(web, standing, way[0]) is not None:
            fail("Unfit")
    if way_error(web, standing, way) is not None:
        fail("Unfit")
    return web, end_of(web, standing, way)


def batched(shelf, edits):
    """The dict of names behind a batch."""
    if not isinstance(edits, tuple) or len(edits) > 12:
        fail("BadBatch")
    for edit in edits:
        if not isinstance(edit, tuple) or not edit or not isinstance(edit[0], str) or edit[0] not in ARGUMENTS \
                or len(edit) != 1 + ARGUMENTS[edit[0]]:
            fail("BadBatch")
    for place, edit in enumerate(edits):
        try:
            shelf = edited(shelf, edit)
        except UnevenError:
            fail("Rejected", place)
    return shelf


def done_by(bench, edit):
    """Does an edit by the method of its word."""
    methods = {"add": bench.add, "drop": bench.drop, "call": bench.call, "lay": bench.lay, "take": bench.take,
               "go": bench.go, "widen": bench.widen, "batch": bench.batch}
    return methods[edit[0]](*edit[1:])


def shelf_of(names):
    """A dict of names as a shelf."""
    return tuple([(name,) + names[name] for name in sorted(names)])


class Model:
    """What a bench should be: the edits that stand, what was taken back, and of which pairs size was told."""

    def __init__(self):
        self.names = [{}]
        self.edits, self.undone, self.told = [], [], set()

    def edit(self, edit):
        behind = edited(self.names[-1], edit)
        if len(self.edits) == 40:
            fail("TooManyEdits")
        self.edits.append(edit)
        self.names.append(behind)
        self.undone = []
        return len(self.edits)

    def undo(self):
        if not self.edits:
            fail("NothingToUndo")
        self.undone.append((self.edits.pop(), self.names.pop()))
        return len(self.edits)

    def redo(self):
        if not self.undone:
            fail("NothingToRedo")
        edit, names = self.undone.pop()
        self.edits.append(edit)
        self.names.append(names)
        return len(self.edits)

    def entry(self, name):
        if not is_name(name) or name not in self.names[-1]:
            fail("NoName", name)
        return self.names[-1][name]

    def size(self, name):
        web, standing = self.entry(name)
        sort = class_of(web, standing)
        if sort == ("even",):
            size, key = 1, (web, standing)
        else:
            size, key = dict(uneven_classes(web))[sort], (web, sort)
        self.told.add(key)
        return size

    def joined(self, name, standing):
        web, own = self.entry(name)
        if standing_error(web, standing) is not None:
            fail("BadStanding", standing_error(web, standing))
        return joined(web, own, standing)

    def at(self, version):
        if type(version) is not int or not 0 <= version <= len(self.edits):
            fail("NoVersion", version)
        return shelf_of(self.names[version])


def some_edit(dice, model, deep=True):
    """An edit, drawn, that is let or not."""
    names = sorted(model.names[-1])
    name = dice.choice(names * 9 + ["row", "a", "b", "c", "d", "e", "abcdefgh", "abcdefghi", "", 5, None, ["a"]])
    web, standing = model.names[-1][name] if isinstance(name, str) and name in names else (ROW_5, (1, 0, 0, 0))
    word = dice.choice(["add"] * 5 + ["lay", "take", "lay", "take", "go", "go", "go", "widen", "call", "drop"]
                       + ["batch"] * deep)
    if word == "add":
        web = dice.choice([ROW, ROW_5, STAR, FORK, KITE, ROUND_5, PAIR, PAIR[:2], None])
        standing = some_standing(web, dice) if web not in (PAIR[:2], None) else ()
        name = dice.choice([dice.choice("abcdefghijkl"), name])
        return ("add", name, web, dice.choice([standing] * 5 + [standing[1:], list(standing)]))
    if word == "drop":
        return ("drop", name)
    if word == "call":
        return ("call", name, dice.choice(["f", "g", "h", "row", "a", "A", "", name, 7]))
    if word == "go":
        way, _ = wandered(web, standing, dice.randint(0, 6), dice.randint(0, 99))
        return ("go", name, dice.choice([way, way, way, way[1:], list(way), way + ((0, 2),)]))
    if word == "batch":
        edits = tuple([some_edit(dice, model, False) for _ in range(dice.choice((0, 1, 1, 2, 2, 3, 12, 13)))])
        return ("batch", dice.choice([edits, edits, edits, list(edits), edits + (("undo",),), None]))
    return (word, name, dice.choice(list(range(len(web[1]))) * 4 + [-1, len(web[1]), True, None, "1"]))


def one_call(dice, bench, model, busy):
    """One call, drawn, of a bench and of the model of it, the busier the more edits: what both tell."""
    names = sorted(model.names[-1]) * 3 + ["row", "x", None]
    name, version = dice.choice(names), dice.choice([0, 1, 2, 5, 20, 40, -1, True])
    word = dice.choice(["edit"] * busy + ["undo", "undo", "redo", "redo", "size", "joined", "at", "attempt"])
    if word == "edit":
        edit = some_edit(dice, model)
        return outcome(done_by, bench, edit), outcome(model.edit, edit)
    if word in ("undo", "redo"):
        return outcome(getattr(bench, word)), outcome(getattr(model, word))
    if word == "size":
        return outcome(bench.size, name), outcome(model.size, name)
    if word == "at":
        return outcome(bench.at, version), outcome(model.at, version)
    if word == "joined":
        standing = dice.choice([(1, 0, 0, 0), (0,) * 6, (1,) * 6, (0, 0, 1), None, (1, 0, 0, 0, 0)])
        return outcome(bench.joined, name, standing), outcome(model.joined, name, standing)
    edits = [some_edit(dice, model) for _ in range(dice.randint(1, 3))]
    before = deepcopy((model.names, model.edits, model.undone))

    def work(one):
        return [done_by(one, edit) if one is bench else one.edit(edit) for edit in edits]
    told, right = outcome(bench.attempt, work), outcome(work, model)
    if isinstance(right, tuple):
        model.names, model.edits, model.undone = before
    return told, right
