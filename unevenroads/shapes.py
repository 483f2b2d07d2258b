"""Webs of plain shapes: paths, rings, webs with all roads, and boards."""

from unevenroads.bounds import MAX_PLACES
from unevenroads.errors import Unfit
from unevenroads.webs import web_error


def path_web(n, most):
    """The path of n places, each road bearing most."""
    _check_size(n)
    return _made(n, _path_roads(n), most)


def ring_web(n, most):
    """The ring of n places, each road bearing most."""
    _check_size(n)
    if n < 3:
        raise Unfit()
    return _made(n, _path_roads(n) + [(0, n - 1)], most)


def full_web(n, most):
    """The web of n places with a road between any two, each bearing most."""
    _check_size(n)
    return _made(n, [(a, b) for a in range(n) for b in range(a + 1, n)], most)


def board_web(rows, columns, most):
    """The web with a road, which bears most, from each row place to each column place."""
    if rows < 1 or columns < 1:
        raise Unfit()
    n = rows + columns
    _check_size(n)
    return _made(n, [(row, column) for row in range(rows) for column in range(rows, n)], most)


def _check_size(n):
    # Far too many places are refused here, as going through their roads would not end.
    if not 2 <= n <= MAX_PLACES:
        raise Unfit()


def _path_roads(n):
    """The roads from each of n places to the one behind it."""
    return [(place, place + 1) for place in range(n - 1)]


def _made(n, roads, most):
    """The web of these roads, each bearing most; Unfit if it is none."""
    web = (n, tuple(sorted(roads)), (most,) * len(roads))
    if web_error(web) is not None:
        raise Unfit()
    return web
