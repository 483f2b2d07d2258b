"""Logs: the texts of edits, and benches by which they were done."""

from unevenroads.benches import Bench
from unevenroads.edittexts import edit_of, text_of
from unevenroads.errors import BadLog, UnevenError


def log_text(edits):
    """The texts of all edits, each with a line feed behind it."""
    return "".join([text_of(edit) + "\n" for edit in edits])


def read_log(value):
    """The edits of a log, perhaps cut off somewhere; BadLog if value is none."""
    if not isinstance(value, str):
        raise BadLog(0)
    edits = []
    # Behind the last line feed there is no line.
    for place, line in enumerate(value.split("\n")[:-1]):
        edit = edit_of(line)
        if edit is None:
            raise BadLog(place)
        edits.append(edit)
    return tuple(edits)


def bench_behind(edits):
    """A Bench by which these edits were done; BadLog with the first one that can't be done."""
    bench = Bench()
    for place, edit in enumerate(edits):
        try:
            bench.do(edit)
        except UnevenError:
            raise BadLog(place)
    return bench
