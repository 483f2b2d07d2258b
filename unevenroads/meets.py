"""Meeting papers: they show that a web is no path, no ring, and comes of no elder tree."""

from unevenroads.parted import is_tree, sides_of
from unevenroads.values import is_from_to, is_tuple_of
from unevenroads.webs import road_counts, roads_at, steps_from


def meeting_paper(web):
    """A meeting paper of the web, None if there is none."""
    counts = road_counts(web)
    place = counts.index(max(counts))
    if counts[place] < 3:
        return None
    if not is_tree(web):
        return (place, ("round", _round_in(web)))
    near, far = sides_of(web)
    ones = [x for x in near if counts[x] != 2]
    others = [x for x in far if counts[x] != 2]
    if not ones or not others:
        return None
    return (place, ("sides", ones[0], others[0]))


def _round_in(web):
    """The places of a round, in their order, of a web that is no tree."""
    beside = _without_ends(web)
    row = [min(beside)]
    behind = None
    # Each place that is left has two neighbours or more: one always comes further, and at last to the row again.
    while True:
        ahead = [x for x in beside[row[-1]] if x != behind]
        if ahead[0] in row:
            return tuple(row[row.index(ahead[0]):])
        behind = row[-1]
        row.append(ahead[0])


def _without_ends(web):
    """The neighbours of each place that is left if places with one road are removed again and again."""
    left = list(range(web[0]))
    while True:
        beside = {x: [y for y, _ in roads_at(web, x) if y in left] for x in left}
        kept = [x for x in left if len(beside[x]) > 1]
        if kept == left:
            return beside
        left = kept


def meeting_holds(web, value):
    """Whether value is a meeting paper of the web."""
    if not is_tuple_of(value, 2):
        return False
    place, reason = value
    if not _is_place(web, place) or len(roads_at(web, place)) < 3:
        return False
    if is_tuple_of(reason, 2) and reason[0] == "round":
        return _is_round(web, reason[1])
    if is_tuple_of(reason, 3) and reason[0] == "sides":
        return _are_unlike(web, reason[1], reason[2])
    return False


def _is_place(web, value):
    """Whether value is a place of the web."""
    return is_from_to(value, 0, web[0] - 1)


def _is_round(web, row):
    """Whether row is a tuple of three unlike places or more, each joined by a road to the next one."""
    if not isinstance(row, tuple) or len(row) < 3 or not all([_is_place(web, x) for x in row]):
        return False
    if len(set(row)) < len(row):
        return False
    joined = [(min(x, y), max(x, y)) in web[1] for x, y in zip(row, row[1:] + row[:1])]
    return all(joined)


def _are_unlike(web, one, other):
    """Whether these are places at an odd number of steps from one another, neither of which has two roads."""
    if not _is_place(web, one) or not _is_place(web, other):
        return False
    if len(roads_at(web, one)) == 2 or len(roads_at(web, other)) == 2:
        return False
    return steps_from(web, one)[other] % 2 == 1
