"""A standing of which sums and unlike roads are kept while deeds are done."""

from unevenroads.deeds import deed_error
from unevenroads.errors import BadStanding, BadWeb, NoVersion, Unfit
from unevenroads.standings import standing_error, sums_of
from unevenroads.values import is_from_to
from unevenroads.webs import roads_at, web_error


class Kept:
    """A standing on which deeds are done one behind another, each a version."""

    def __init__(self, web, standing):
        error = web_error(web)
        if error is not None:
            raise BadWeb(error)
        error = standing_error(web, standing)
        if error is not None:
            raise BadStanding(error)
        self._web = web
        self._beside = [[road for _, road in roads_at(web, place)] for place in range(web[0])]
        self._loads = list(standing)
        self._totals = list(sums_of(web, standing))
        self._marks = [self._totals[a] != self._totals[b] for a, b in web[1]]
        self._looked = len(web[1])
        # Deeds that stand; how many were done, back ones too; and what news tells.
        self._deeds = []
        self._many = 0
        self._events = []

    @property
    def standing(self):
        """The standing as it is now."""
        return tuple(self._loads)

    @property
    def sums(self):
        """The sums of all places."""
        return tuple(self._totals)

    @property
    def unlike(self):
        """The roads, ascending, whose ends have unlike sums."""
        return tuple([road for road, mark in enumerate(self._marks) if mark])

    @property
    def version(self):
        """How many deeds were done, those of back too."""
        return self._many

    @property
    def looks(self):
        """How many roads were looked at so far."""
        return self._looked

    def lay(self, road):
        """Lays a load on the road; the new version. Unfit if the standing does not let it."""
        return self._go((road, 1))

    def take(self, road):
        """Takes a load from the road; the new version. Unfit if the standing does not let it."""
        return self._go((road, -1))

    def back(self):
        """Undoes the last deed that stands; the new version. Unfit if none stands."""
        if not self._deeds:
            raise Unfit()
        road, by = self._deeds.pop()
        return self._change(road, -by)

    def news(self, since):
        """The triples (version, word, road), ascending, of the versions above since; NoVersion if it is none."""
        if not is_from_to(since, 0, self._many):
            raise NoVersion(since)
        return tuple([event for event in self._events if event[0] > since])

    def _go(self, deed):
        """Does a deed that stands."""
        if deed_error(self._web, self.standing, deed) is not None:
            raise Unfit()
        self._deeds.append(deed)
        road, by = deed
        return self._change(road, by)

    def _change(self, road, by):
        """Does a let deed, and looks at all roads that have a place in common with its road."""
        a, b = self._web[1][road]
        self._loads[road] += by
        self._totals[a] += by
        self._totals[b] += by
        self._many += 1
        near = sorted(set(self._beside[a] + self._beside[b]))
        self._looked += len(near)
        self._events.extend(self._events_at(near))
        return self._many

    def _events_at(self, roads):
        """Marks the roads anew; what was changed, as news tells it."""
        found = []
        for road in roads:
            a, b = self._web[1][road]
            unlike = self._totals[a] != self._totals[b]
            if unlike != self._marks[road]:
                self._marks[road] = unlike
                found.append((self._many, "unlike" if unlike else "alike", road))
        return sorted(found)
