"""Pairs of paths and rings that are slid along the row of places."""


def laid_spots(walk, row):
    """All i, ascending, such that the place i of the row and the one behind it are a pair."""
    return [i for i, place in enumerate(row) if _is_pair(walk, place, row[(i + 1) % len(row)])]


def _is_pair(walk, place, other):
    """Whether a laid road joins the two."""
    return other in walk.laid_from(place)


def slide(walk, row, spots, goals):
    """Slides the pair at each spot of the row to its goal, the order of both being the same.

    In a ring spots and goals may go on behind the end of the row, or ahead of it. There is a hole, so some pair that
    is not at its goal can always go on: it is stopped by none but another one that has to go the same way.
    """
    at = list(spots)
    while at != goals:
        for k, goal in enumerate(goals):
            at[k] += _slid(walk, row, at[k], goal)


def _slid(walk, row, spot, goal):
    """Slides the pair at the spot one place towards the goal, if it can; by how much it went on."""
    n = len(row)
    first, second = row[spot % n], row[(spot + 1) % n]
    if spot < goal and walk.is_hole(row[(spot + 2) % n]):
        walk.hand_on(second, row[(spot + 2) % n])
        return 1
    if spot > goal and walk.is_hole(row[(spot - 1) % n]):
        walk.hand_on(first, row[(spot - 1) % n])
        return -1
    return 0
