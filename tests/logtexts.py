"""Texts of edits, written and read in the words of [M5]."""

import re

from tests.modelling import ARGUMENTS

NUMBER = r"(0|-?[1-9][0-9]*)"
WORDS = dict(ARGUMENTS, batch=1)


def text_of(value):
    """The text of a value, in the words of [M5]."""
    if isinstance(value, tuple):
        return "(" + ",".join([text_of(item) for item in value]) + ")"
    return str(value)


def value_of(text, at, depth):
    """The value that is told from this place on, and the place behind it; a ValueError if there is none."""
    if text[at:at + 1] != "(":
        part = re.compile(r"[a-z]{1,12}(?![a-z])|" + NUMBER + r"(?![0-9])").match(text, at)
        if part is None:
            raise ValueError(at)
        told = part.group()
        if told[0] in "abcdefghijklmnopqrstuvwxyz":
            return told, part.end()
        if not -999 <= int(told) <= 999999:
            raise ValueError(at)
        return int(told), part.end()
    if depth == 20:
        raise ValueError(at)
    items, at = [], at + 1
    if text[at:at + 1] == ")":
        return (), at + 1
    while True:
        item, at = value_of(text, at, depth + 1)
        items.append(item)
        at += 1
        if text[at - 1:at] == ")":
            return tuple(items), at
        if text[at - 1:at] != ",":
            raise ValueError(at)


def edit_told(line):
    """The edit tuple of a line, None if there is none."""
    try:
        value, end = value_of(line, 0, 0)
    except ValueError:
        return None
    if end != len(line) or not isinstance(value, tuple) or not value or value[0] not in WORDS:
        return None
    return value if len(value) == 1 + WORDS[value[0]] else None
