"""Games of a leader, who does deeds, against a foe, who bars a road in each turn."""

from unevenroads.bounds import MAX_GAME
from unevenroads.errors import Unfit
from unevenroads.reaches import let_ends, reach
from unevenroads.values import is_same


def _turns(web, standing, goals):
    """A dict: the turns of all standings of the class that have any; TooMany if the class is too great."""
    members = list(reach(web, standing, (), MAX_GAME))
    ends = {here: let_ends(web, here) for here in members}
    turns = {goal: 0 for goal in goals if goal in ends}
    # For each standing the roads that lead to standings with turns.
    leading = {here: {} for here in members}
    fresh = list(turns)
    many = 0
    while fresh:
        many += 1
        touched = []
        for here in fresh:
            # The deed on the same road leads back from each neighbour.
            for (road, _), behind in ends[here]:
                leading[behind][road] = True
                touched.append(behind)
        fresh = []
        for here in touched:
            if here not in turns and len(leading[here]) > 1:
                turns[here] = many
                fresh.append(here)
    return turns


def led_turns(web, standing, goals):
    """In how many turns, at most, the leader can be sure to come to a goal; None if in none."""
    return _turns(web, standing, goals).get(standing, None)


def turns_of(web, standing, goals):
    """The pairs (s, turns), ascending, of all standings s that are joined to standing."""
    turns = _turns(web, standing, goals)
    return tuple([(here, turns.get(here, None)) for here in sorted(reach(web, standing, (), MAX_GAME))])


def turns_hold(web, standing, goals, value):
    """Whether value is what turns_of tells."""
    return is_same(value, turns_of(web, standing, goals))


def led_deed(web, standing, goals, road):
    """A deed on another road than road that leads to fewer turns; Unfit if standing is a goal or has no turns."""
    turns = _turns(web, standing, goals)
    if turns.get(standing, 0) == 0:
        raise Unfit()
    leading = [deed for deed, behind in let_ends(web, standing)
               if deed[0] != road and behind in turns and turns[behind] < turns[standing]]
    return leading[0]


def barring_road(web, standing, goals):
    """The least road beside which none leads to turns; Unfit if standing has turns."""
    turns = _turns(web, standing, goals)
    if standing in turns:
        raise Unfit()
    # At most one road leads to turns.
    leading = [road for (road, _), behind in let_ends(web, standing) if behind in turns]
    return min(leading, default=0)
