"""Edits as texts."""

from unevenroads.edits import is_edit, is_word
from unevenroads.errors import Unfit
from unevenroads.values import is_from_to
from unevenroads.webtexts import is_figures

LEAST = -999
GREATEST = 999999
# No integer from LEAST to GREATEST has more figures, and Python refuses to read very long ones.
MOST_FIGURES = 6
MOST_LETTERS = 12
# How many brackets may be open at once.
DEPTH = 20


def text_of(value):
    """The text of an integer, a word, or a tuple; Unfit if it has none."""
    return _text_within(value, DEPTH)


def _text_within(value, depth):
    """The text of value, in which at most depth brackets are open at once; Unfit if it has none."""
    if is_from_to(value, LEAST, GREATEST):
        return str(value)
    if is_word(value, MOST_LETTERS):
        return value
    if not isinstance(value, tuple) or depth == 0:
        raise Unfit()
    return "(" + ",".join([_text_within(item, depth - 1) for item in value]) + ")"


def edit_of(text):
    """The edit tuple of which this is the text; None if there is none."""
    value = _read(text)
    try:
        # What is not written in the one right way is told by this.
        if is_edit(value) and text_of(value) == text:
            return value
    except Unfit:
        return None
    return None


def _read(text):
    """What the text tells if it is well written; None, or any value, if not."""
    rows = [[]]
    for part in text.replace("(", ",(,").replace(")", ",),").split(","):
        if part == "(":
            rows.append([])
        elif part == ")":
            row = tuple(rows.pop())
            if not rows:
                return None
            rows[-1].append(row)
        elif part != "":
            rows[-1].append(_read_part(part))
        if len(rows) > DEPTH + 1:
            return None
    if len(rows) > 1 or len(rows[0]) != 1:
        return None
    return rows[0][0]


def _read_part(part):
    """The integer that is told, or the part itself."""
    figures = part[1:] if part[0] == "-" else part
    if is_figures(figures) and len(figures) <= MOST_FIGURES:
        return int(part)
    return part
