"""The base of a class, a standing with the fewest loads, and ways to it."""

from unevenroads.kinds import row_of
from unevenroads.lessening import fewest, lessen
from unevenroads.parted import elder_tree
from unevenroads.slides import laid_spots, slide
from unevenroads.sorts import sort_of
from unevenroads.steps import row_between
from unevenroads.walks import Walk
from unevenroads.webs import road_between
from unevenroads.wides import lead_hole_to


def base_of(web, standing):
    """The base of the class of the standing."""
    sort = sort_of(web, standing)
    if sort == ("even",):
        return standing
    if sort[0] == "walls":
        return _laid(web, _every_second(web, sort[1] // 2))
    if sort == ("near",):
        return near_pairing(web, min(elder_tree(web)[0]))
    return _laid(web, [0])


def _laid(web, roads):
    """The standing with one load on each of these roads."""
    return tuple([1 if road in roads else 0 for road in range(len(web[1]))])


def _every_second(web, many):
    """So many of the row roads 0, 2, 4, .. of a path or a ring."""
    row = row_of(web)
    return [road_between(web, row[2 * k], row[2 * k + 1]) for k in range(many)]


def near_pairing(web, spot):
    """The pairing of a tree with an elder tree in which the spot is the one hole."""
    spots, tree = elder_tree(web)
    roads = []
    reached = [spot]
    while len(reached) < len(spots):
        for a, b, middle in tree:
            if (a in reached) != (b in reached):
                further = b if a in reached else a
                roads.append(road_between(web, middle, further))
                reached.append(further)
    return _laid(web, roads)


def led_to_base(web, standing):
    """A way from the standing to the base of its class."""
    sort = sort_of(web, standing)
    if sort == ("even",):
        return ()
    least = fewest(web, standing)
    walk = Walk(web, standing)
    while sum(walk.loads) > least:
        lessen(walk)
    if sort[0] == "walls":
        row = row_of(web)
        slide(walk, row, laid_spots(walk, row), [2 * k for k in range(least)])
    elif sort == ("near",):
        lead_hole_to(walk, min(elder_tree(web)[0]))
    else:
        _bring_to_first_road(walk)
    return tuple(walk.deeds)


def _bring_to_first_road(walk):
    """Passes the one pair that there is on to the road 0."""
    ends = walk.web[1][0]
    pair = [place for place, total in enumerate(walk.totals) if total == 1]
    row = row_between(walk.beside, pair, ends, [])
    last = ends[1] if row[-1] == ends[0] else ends[0]
    if last not in pair:
        walk.bring(row + [last])
