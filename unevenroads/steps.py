"""Shortest rows of places from some places to others."""


def row_between(beside, starts, goals, barred):
    """The places of a shortest row from one of starts to one of goals, both too; None if there is none.

    beside tells the neighbours of each place; the row goes over no place of barred.
    """
    behind = {place: None for place in starts}
    reached = list(behind)
    at = 0
    while at < len(reached):
        place = reached[at]
        at += 1
        if place in goals:
            return _row_back(behind, place)
        fresh = [x for x in beside[place] if x not in behind and x not in barred]
        for x in fresh:
            behind[x] = place
        reached.extend(fresh)
    return None


def _row_back(behind, place):
    """The row that ends at the place, behind telling what is behind each place of it."""
    row = []
    while place is not None:
        row.append(place)
        place = behind[place]
    return row[::-1]
