"""Edits of a table of names, each with a web and a standing of it.

A table is a dict, its names ascending, of pairs (web, standing). No edit changes a table: a new one is told.
"""

from unevenroads.bounds import BATCH, MAX_LOAD, MAX_NAMES
from unevenroads.deeds import done
from unevenroads.errors import BadBatch, BadStanding, BadWeb, NoName, Rejected, Taken, TooMany, Unfit, UnevenError
from unevenroads.standings import standing_error
from unevenroads.values import is_from_to
from unevenroads.ways import end_of
from unevenroads.webs import web_error

LETTERS = "abcdefghijklmnopqrstuvwxyz"
MOST_LETTERS = 8

# How many arguments each edit has.
ARGUMENTS = {"add": 3, "drop": 1, "call": 2, "lay": 2, "take": 2, "go": 2, "widen": 2, "batch": 1}


def is_edit(value):
    """Whether value is a tuple of the word of an edit and of as many arguments as it has, whatever they are."""
    if not isinstance(value, tuple) or not value or not isinstance(value[0], str):
        return False
    return value[0] in ARGUMENTS and len(value) == 1 + ARGUMENTS[value[0]]


def is_word(value, most):
    """Whether value is a string of letters, one at least and at most so many."""
    return isinstance(value, str) and 1 <= len(value) <= most and all([sign in LETTERS for sign in value])


def entry_of(table, name):
    """The pair (web, standing) of the name; NoName if there is none."""
    if not isinstance(name, str) or name not in table:
        raise NoName(name)
    return table[name]


def shelf_of(table):
    """The triples (name, web, standing), ascending."""
    return tuple([(name, web, standing) for name, (web, standing) in table.items()])


def _with_entry(table, name, entry):
    """The table in which the name has this entry."""
    rows = [(own, table[own]) for own in table if own != name] + [(name, entry)]
    return dict(sorted(rows))


def _without_entry(table, name):
    """The table without the name."""
    return {own: table[own] for own in table if own != name}


def _check_new(table, name):
    """Raises Taken if the name is one of the names."""
    if name in table:
        raise Taken(name)


def _add(table, name, web, standing):
    """The web with the standing gets a name."""
    if not is_word(name, MOST_LETTERS):
        raise Unfit()
    error = web_error(web)
    if error is not None:
        raise BadWeb(error)
    error = standing_error(web, standing)
    if error is not None:
        raise BadStanding(error)
    _check_new(table, name)
    if len(table) >= MAX_NAMES:
        raise TooMany(MAX_NAMES)
    return _with_entry(table, name, (web, standing))


def _drop(table, name):
    """The name is removed."""
    entry_of(table, name)
    return _without_entry(table, name)


def _call(table, name, other):
    """The name becomes other."""
    entry = entry_of(table, name)
    if not is_word(other, MOST_LETTERS):
        raise Unfit()
    _check_new(table, other)
    return _with_entry(_without_entry(table, name), other, entry)


def _lay(table, name, road):
    """A load is laid on the road."""
    web, standing = entry_of(table, name)
    return _with_entry(table, name, (web, done(web, standing, (road, 1))))


def _take(table, name, road):
    """A load is taken from the road."""
    web, standing = entry_of(table, name)
    return _with_entry(table, name, (web, done(web, standing, (road, -1))))


def _go(table, name, way):
    """All deeds of the way are done."""
    web, standing = entry_of(table, name)
    return _with_entry(table, name, (web, end_of(web, standing, way)))


def _widen(table, name, road):
    """The road bears one more."""
    web, standing = entry_of(table, name)
    n, roads, most = web
    if not is_from_to(road, 0, len(roads) - 1) or most[road] >= MAX_LOAD:
        raise Unfit()
    wider = (n, roads, most[:road] + (most[road] + 1,) + most[road + 1:])
    return _with_entry(table, name, (wider, standing))


def _batch(table, edits):
    """All these edits are done one behind another; Rejected with the first one that raises an error."""
    if not isinstance(edits, tuple) or len(edits) > BATCH:
        raise BadBatch()
    if not all([is_edit(edit) and edit[0] != "batch" for edit in edits]):
        raise BadBatch()
    for place, edit in enumerate(edits):
        try:
            table = behind_edit(table, edit)
        except UnevenError:
            raise Rejected(place)
    return table


ACTIONS = {"add": _add, "drop": _drop, "call": _call, "lay": _lay, "take": _take, "go": _go, "widen": _widen,
           "batch": _batch}


def behind_edit(table, edit):
    """The table behind the edit; it raises what the edit raises, but for too many edits."""
    action = ACTIONS[edit[0]]
    arguments = edit[1:]
    return action(table, *arguments)
