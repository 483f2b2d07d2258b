"""Ways from a pairing to one with a pair less, over a road that bears two loads or more.

They are for paths, rings, and trees with an elder tree and one hole, where no pair can be dropped.
"""

from unevenroads.kinds import is_path, is_ring, row_of
from unevenroads.parted import elder_tree
from unevenroads.slides import laid_spots, slide
from unevenroads.steps import row_between

# A hole and two pairs stand in a row. For each of its four roads, if it bears two: how the loads on all four go on.
GOING = (
    ("0101", "1101", "2101", "2001", "2011", "2010", "2110", "1110", "1100", "1000"),
    ("0101", "1101", "1201", "0201", "0211", "0111", "0011", "0001"),
    ("0101", "1101", "1001", "1011", "1021", "1121", "1120", "1110", "1100", "1000"),
    ("0101", "1101", "1001", "1011", "1012", "1002", "1102", "0102", "0112", "0111", "0011", "0001"),
)


def merge_two_pairs(walk):
    """Passes pairs on till two of them and a hole stand in a row with a road that bears two, and makes one of both."""
    if is_path(walk.web):
        five = _five_in_path(walk)
    elif is_ring(walk.web):
        five = _five_in_ring(walk)
    else:
        five = _five_in_tree(walk)
    _go_on(walk, five)


def _go_on(walk, five):
    """Makes one pair of the two in the row of five places, the first of which is a hole."""
    ends = list(zip(five, five[1:]))
    wide = [k for k, (a, b) in enumerate(ends) if _bears(walk, a, b) > 1][0]
    going = GOING[wide]
    for ahead, behind in zip(going, going[1:]):
        for (a, b), before, then in zip(ends, ahead, behind):
            if before != then:
                walk.change(a, b, int(then) - int(before))


def _bears(walk, a, b):
    """What the road between a and b bears."""
    return walk.web[2][walk.named[(a, b)]]


def _wide_in_row(walk, row):
    """The least i such that the row road i bears two or more."""
    ends = list(zip(row, row[1:] + row[:1]))
    # In a path no road leads from the last place to the first one; but one that bears two comes ahead of that.
    wide = [i for i, (a, b) in enumerate(ends) if b in walk.beside[a] and _bears(walk, a, b) > 1]
    return wide[0]


def _slide_least(walk, row, plans):
    """Slides the pairs by that one of the plans, (spots, goals, place of the hole), by which they go least."""
    costs = [sum([abs(goal - spot) for spot, goal in zip(spots, goals)]) for spots, goals, _ in plans]
    spots, goals, hole = plans[costs.index(min(costs))]
    slide(walk, row, spots, goals)
    return [row[(hole + k) % len(row)] for k in range(5)]


def _five_in_path(walk):
    """Slides the pairs of a path; five places in a row, a hole and two pairs, with a road that bears two."""
    row = row_of(walk.web)
    wide = _wide_in_row(walk, row)
    spots = laid_spots(walk, row)
    many = len(spots) - 2
    n = len(row)
    plans = []
    for hole in range(max(0, wide - 3), min(wide, n - 5) + 1):
        for ahead in range(many + 1):
            # All pairs further ahead stand at the beginning of the row, all further behind at its end.
            if 2 * ahead <= hole and 2 * (many - ahead) <= n - 5 - hole:
                goals = [2 * k for k in range(ahead)] + [hole + 1, hole + 3]
                goals.extend([n - 2 * k for k in range(many - ahead, 0, -1)])
                plans.append((spots, goals, hole))
    return _slide_least(walk, row, plans)


def _five_in_ring(walk):
    """Slides the pairs of a ring; five places in a row, a hole and two pairs, with a road that bears two."""
    row = row_of(walk.web)
    wide = _wide_in_row(walk, row)
    spots = laid_spots(walk, row)
    n = len(row)
    plans = []
    for first in range(len(spots)):
        around = spots[first:] + [spot + n for spot in spots[:first]]
        for hole in (wide - n, wide, wide + n):
            goals = [hole + 1 + 2 * k for k in range(len(spots))]
            plans.append((around, goals, hole))
    return _slide_least(walk, row, plans)


def _five_in_tree(walk):
    """Passes the one hole of a tree with an elder tree on; five places in a row with a road that bears two."""
    _, tree = elder_tree(walk.web)
    wide = [(a, b, middle) for a, b, middle in tree if max(_bears(walk, a, middle), _bears(walk, b, middle)) > 1]
    a, b, middle = wide[0]
    hole, beyond = (a, b) if len(walk.beside[b]) > 1 else (b, a)
    lead_hole_to(walk, hole)
    third = [x for x in walk.beside[beyond] if x != middle][0]
    return [hole, middle, beyond, third, walk.laid_from(third)[0]]


def lead_hole_to(walk, spot):
    """Passes the one hole of a pairing, in a tree that has an elder tree, on to the spot."""
    row = row_between(walk.beside, walk.holes(), [spot], [])
    for hole, middle in zip(row[::2], row[1::2]):
        walk.hand_on(middle, hole)
