"""Ways from a pairing to one with a pair less, in a web where some place has three roads or more."""

from unevenroads.pairings import droppable
from unevenroads.steps import row_between
from unevenroads.walks import Walk


def drop_some_pair(walk):
    """Passes pairs on till one of them can be dropped, and drops it.

    The pairing has two pairs or more, and a hole; if the web has an elder tree, it has two holes or more.
    """
    while True:
        found = droppable(walk.beside, walk.partners())
        if found:
            place, hole, other = found[0]
            walk.drop_pair(place, hole, other)
            return
        _come_nearer(walk)


def _come_nearer(walk):
    """Passes pairs on such that one can be dropped, or is nearer to it. (None can be dropped at first.)"""
    meets = [place for place, near in enumerate(walk.beside) if len(near) > 2 and _is_beside_hole(walk, place)]
    paired = [place for place in meets if not walk.is_hole(place)]
    if paired:
        _bring_second(walk, paired[0])
    elif meets:
        walk.bring(row_between(walk.beside, [meets[0]], _paired(walk), [])[::-1])
    else:
        twins = [(v, w) for v in walk.holes() for w in walk.beside[v] if walk.is_hole(w)]
        if twins:
            _lead_twins(walk, twins[0])
        else:
            _lead_hole(walk)


def _is_beside_hole(walk, place):
    """Whether some neighbour of the place is a hole."""
    return any([walk.is_hole(x) for x in walk.beside[place]])


def _paired(walk):
    """All places that are no holes, ascending."""
    return [place for place in range(walk.web[0]) if not walk.is_hole(place)]


def _bring_second(walk, meet):
    """Brings a second pair beside the paired place meet, all further neighbours of which are holes.

    If the other pairs can be come to from its partner only, meet is first given to another neighbour.
    """
    row = _row_to_second(walk, meet)
    if row is None:
        partner = walk.laid_from(meet)[0]
        walk.hand_on(meet, [x for x in walk.beside[meet] if x != partner][0])
        row = _row_to_second(walk, meet)
    walk.bring(row[::-1])


def _row_to_second(walk, meet):
    """A row over holes from a neighbour of meet, not its partner, to another pair; None if there is none."""
    partner = walk.laid_from(meet)[0]
    starts = [x for x in walk.beside[meet] if x != partner]
    goals = [x for x in _paired(walk) if x not in (meet, partner)]
    return row_between(walk.beside, starts, goals, [meet, partner])


def _lead_twins(walk, twins):
    """Leads two holes side by side to the next place with three roads or more, each place between having two."""
    meets = [place for place, near in enumerate(walk.beside) if len(near) > 2]
    row = row_between(walk.beside, twins, meets, [])
    behind = twins[0] if row[0] == twins[1] else twins[1]
    at = 0
    while row[at] not in meets and (walk.is_hole(row[at + 1]) or row[at + 1] not in meets):
        if walk.is_hole(row[at + 1]):
            behind = row[at]
            at += 1
        else:
            # The place ahead has no further road but to its partner, which is the next one of the row.
            walk.hand_on(row[at + 1], row[at])
            walk.hand_on(row[at], behind)
            behind = row[at + 1]
            at += 2


def _lead_hole(walk):
    """Passes a hole on to where it is beside another one, or beside a place with three roads or more.

    No such is beside a hole at first: so the neighbours of a hole have two roads each, one to the partner.
    """
    first = walk.holes()[0]
    passes = {first: []}
    reached = [first]
    for at in range(walk.web[0]):
        hole = reached[at]
        trial = Walk(walk.web, walk.loads)
        _pass_all(trial, passes[hole])
        if any([trial.is_hole(x) or len(trial.beside[x]) > 2 for x in trial.beside[hole]]):
            _pass_all(walk, passes[hole])
            return
        partners = trial.partners()
        for x in trial.beside[hole]:
            if partners[x] not in passes:
                passes[partners[x]] = passes[hole] + [(x, hole)]
                reached.append(partners[x])


def _pass_all(walk, passes):
    """Passes the pair of each place to its hole, one behind another."""
    for place, hole in passes:
        walk.hand_on(place, hole)
