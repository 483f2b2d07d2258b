"""A standing that deeds are done on, one behind another."""

from unevenroads.pairings import partners_of
from unevenroads.standings import sums_of
from unevenroads.webs import roads_at


class Walk:
    """A standing on its way: its loads, the sums of its places, and the deeds that were done so far.

    Whether a deed is let is not asked: who calls knows it.
    """

    def __init__(self, web, standing):
        self.web = web
        self.loads = list(standing)
        self.totals = list(sums_of(web, standing))
        self.beside = [[x for x, _ in roads_at(web, place)] for place in range(web[0])]
        self.named = {}
        for road, (a, b) in enumerate(web[1]):
            self.named[(a, b)] = road
            self.named[(b, a)] = road
        self.deeds = []

    def change(self, a, b, by):
        """Lays a load on the road between a and b, or takes one from it."""
        road = self.named[(a, b)]
        self.loads[road] += by
        self.totals[a] += by
        self.totals[b] += by
        self.deeds.append((road, by))

    def is_hole(self, place):
        """Whether the place has the sum 0."""
        return self.totals[place] == 0

    def holes(self):
        """All holes, ascending."""
        return [place for place, total in enumerate(self.totals) if total == 0]

    def laid_from(self, place):
        """The neighbours of the place to which laid roads lead, ascending."""
        return [x for x in self.beside[place] if self.loads[self.named[(place, x)]] > 0]

    def partners(self):
        """For each place its partner, None for a hole; for pairings alone."""
        return partners_of(self.web, self.loads)

    def hand_on(self, place, hole):
        """Passes the pair of the place to the hole; for pairings alone."""
        partner = self.laid_from(place)[0]
        self.change(place, hole, 1)
        self.change(place, partner, -1)

    def bring(self, row):
        """Passes the pair of the first place of the row on along it, over holes, to its last two places."""
        for place, hole in zip(row, row[1:]):
            self.hand_on(place, hole)

    def drop_pair(self, place, hole, other):
        """Makes one pair, place and hole, of the pairs of place and other; for pairings alone."""
        partner = self.laid_from(place)[0]
        beyond = self.laid_from(other)[0]
        self.change(place, hole, 1)
        self.change(place, other, 1)
        self.change(place, partner, -1)
        self.change(other, beyond, -1)
        self.change(place, other, -1)
