"""Pairings: standings in which each place has the sum 0 or 1, and how a pair passes to a hole or is dropped."""

from unevenroads.errors import Unfit
from unevenroads.standings import sums_of
from unevenroads.webs import road_between, roads_at


def is_pairing(web, standing):
    """Whether each place has the sum 0 or 1."""
    return max(sums_of(web, standing)) <= 1


def holes_of(web, standing):
    """The places, ascending, with the sum 0."""
    return tuple([place for place, total in enumerate(sums_of(web, standing)) if total == 0])


def partner_of(web, standing, place):
    """The other end of the laid road at the place; Unfit if the standing is no pairing, or the place a hole."""
    if not is_pairing(web, standing):
        raise Unfit()
    for neighbour, road in roads_at(web, place):
        if standing[road] == 1:
            return neighbour
    raise Unfit()


def partners_of(web, pairing):
    """For each place its partner in the pairing, None for a hole."""
    partners = [None] * web[0]
    for road, (a, b) in enumerate(web[1]):
        if pairing[road] == 1:
            partners[a] = b
            partners[b] = a
    return partners


def passed(web, standing, place, hole):
    """The way of two deeds by which the pair of place passes to the hole; Unfit if it can't."""
    partner = partner_of(web, standing, place)
    to_hole = road_between(web, place, hole)
    if to_hole is None or hole not in holes_of(web, standing):
        raise Unfit()
    return ((to_hole, 1), (road_between(web, place, partner), -1))


def dropped(web, standing, place, hole, other):
    """The way of five deeds that makes one pair, place and hole, of those of place and other; Unfit if it can't."""
    lay_hole, take_partner = passed(web, standing, place, hole)
    to_other = road_between(web, place, other)
    if to_other is None or (to_other, -1) == take_partner:
        raise Unfit()
    beyond = road_between(web, other, partner_of(web, standing, other))
    return (lay_hole, (to_other, 1), take_partner, (beyond, -1), (to_other, -1))


def droppable(beside, partners):
    """All triples (place, hole, other), ascending, by which a pair can be dropped.

    beside tells the neighbours of each place, ascending, partners the partner of each, None for a hole.
    """
    found = []
    for place, partner in enumerate(partners):
        if partner is not None:
            holes = [x for x in beside[place] if partners[x] is None]
            others = [x for x in beside[place] if partners[x] is not None and x != partner]
            found.extend([(place, hole, other) for hole in holes for other in others])
    return found
