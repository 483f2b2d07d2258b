"""Webs and standings as texts."""

from unevenroads.errors import BadText
from unevenroads.standings import standing_error
from unevenroads.webs import web_error

FIGURES = "0123456789"
# No number of a web has more figures, and Python refuses to read very long ones.
MOST_FIGURES = 2


def web_text(web):
    """The text of a web: n, and for each road its ends and what it bears."""
    n, roads, most = web
    words = [str(n)]
    for (a, b), bears in zip(roads, most):
        words.append(f"{a}-{b}:{bears}")
    return " ".join(words)


def read_web(value):
    """The web of which value is the text; BadText if there is none."""
    if not isinstance(value, str):
        raise BadText()
    words = value.split(" ")
    told = [_read_road(word) for word in words[1:]]
    roads = tuple([road for road, _ in told])
    most = tuple([bears for _, bears in told])
    web = (_read_number(words[0]), roads, most)
    if web_error(web) is not None:
        raise BadText()
    return web


def _read_road(word):
    """The pair (road, what it bears) of a word like 0-1:2."""
    parts = word.split(":")
    ends = parts[0].split("-")
    if len(parts) != 2 or len(ends) != 2:
        raise BadText()
    return (_read_number(ends[0]), _read_number(ends[1])), _read_number(parts[1])


def _read_number(text):
    """The integer that text tells in decimal, without noughts ahead of other figures."""
    if not is_figures(text) or len(text) > MOST_FIGURES:
        raise BadText()
    if text[0] == "0" and len(text) > 1:
        raise BadText()
    return int(text)


def is_figures(text):
    """Whether text is one figure or more, and nothing else."""
    return text != "" and all([sign in FIGURES for sign in text])


def standing_text(standing):
    """The figures of the loads, nothing between."""
    return "".join([str(load) for load in standing])


def read_standing(web, value):
    """The standing of web of which value is the text; BadText if there is none."""
    if not isinstance(value, str) or not is_figures(value):
        raise BadText()
    standing = tuple([int(sign) for sign in value])
    if standing_error(web, standing) is not None:
        raise BadText()
    return standing
