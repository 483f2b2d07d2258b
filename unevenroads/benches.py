"""Benches: webs with a standing of each under names, and edits that can be taken back."""

from unevenroads.bounds import MAX_EDITS
from unevenroads.classes import class_size
from unevenroads.deeds import let_deeds
from unevenroads.edits import behind_edit, entry_of, shelf_of
from unevenroads.errors import BadStanding, NothingToRedo, NothingToUndo, NoVersion, TooManyEdits, UnevenError
from unevenroads.joining import joined
from unevenroads.sorts import sort_of
from unevenroads.standings import standing_error
from unevenroads.values import is_from_to


class Bench:
    """Webs with standings under names; the edits that stand, those that were taken back, and answers that are kept."""

    def __init__(self):
        # The table of names now, and what it was when 0, 1, .. of the edits stood, the last one being that of now.
        self._table = {}
        self._tables = [{}]
        self._edits = []
        # Pairs (edit, table behind it), those taken back first ahead.
        self._undone = []
        self._sizes = {}

    @property
    def shelf(self):
        """The triples (name, web, standing), ascending."""
        return shelf_of(self._table)

    @property
    def version(self):
        """How many edits stand."""
        return len(self._edits)

    @property
    def log(self):
        """The edits that stand, in order."""
        return tuple(self._edits)

    @property
    def made(self):
        """Of how many pairs of a web and a sort size has told the answer."""
        return len(self._sizes)

    def __len__(self):
        return len(self._table)

    def __getitem__(self, at):
        return entry_of(self._table, at)

    def __iter__(self):
        return iter(self._table)

    def __eq__(self, other):
        return isinstance(other, Bench) and self._table == other._table

    def do(self, edit):
        """Does an edit, told as its word and its arguments; the new version."""
        table = behind_edit(self._table, edit)
        if len(self._edits) >= MAX_EDITS:
            raise TooManyEdits()
        self._undone = []
        return self._stand(edit, table)

    def add(self, name, web, standing):
        """Puts a web with a standing under a name; the new version."""
        return self.do(("add", name, web, standing))

    def drop(self, name):
        """Removes the name; the new version."""
        return self.do(("drop", name))

    def call(self, name, other):
        """Calls what has this name otherwise; the new version."""
        return self.do(("call", name, other))

    def lay(self, name, road):
        """Lays a load on the road; the new version."""
        return self.do(("lay", name, road))

    def take(self, name, road):
        """Takes a load from the road; the new version."""
        return self.do(("take", name, road))

    def go(self, name, way):
        """Does all deeds of the way; the new version."""
        return self.do(("go", name, way))

    def widen(self, name, road):
        """Lets the road bear one more; the new version."""
        return self.do(("widen", name, road))

    def batch(self, edits):
        """Does all these edits as one, or none; the new version."""
        return self.do(("batch", edits))

    def size(self, name):
        """How many standings are joined to that of the name."""
        web, standing = entry_of(self._table, name)
        sort = sort_of(web, standing)
        key = (web, standing) if sort == ("even",) else (web, sort)
        if key not in self._sizes:
            self._sizes[key] = class_size(web, standing)
        return self._sizes[key]

    def joined(self, name, standing):
        """Whether the standing is joined to that of the name."""
        web, own = entry_of(self._table, name)
        error = standing_error(web, standing)
        if error is not None:
            raise BadStanding(error)
        return joined(web, own, standing)

    def lets(self, name):
        """All deeds that the standing of the name lets."""
        web, standing = entry_of(self._table, name)
        return let_deeds(web, standing)

    def undo(self):
        """Takes the last edit that stands back; the version then."""
        if not self._edits:
            raise NothingToUndo()
        self._undone.append((self._edits.pop(), self._tables.pop()))
        self._table = self._tables[-1]
        return len(self._edits)

    def redo(self):
        """Does again what was taken back last; the version then."""
        if not self._undone:
            raise NothingToRedo()
        edit, table = self._undone.pop()
        return self._stand(edit, table)

    def at(self, version):
        """The shelf when so many edits stood, of those that stand now."""
        if not is_from_to(version, 0, len(self._edits)):
            raise NoVersion(version)
        return shelf_of(self._tables[version])

    def copy(self):
        """A bench with the same edits and answers that does not change with this one."""
        twin = Bench()
        twin._put(self._kept_edits(), {key: self._sizes[key] for key in self._sizes})
        return twin

    def attempt(self, work):
        """What work tells of this bench; if it raises an UnevenError all edits are as ahead of it."""
        ahead = self._kept_edits()
        try:
            return work(self)
        except UnevenError:
            self._put(ahead, self._sizes)
            raise

    def _stand(self, edit, table):
        """Lets an edit stand, the table being that behind it; the new version."""
        self._edits.append(edit)
        self._tables.append(table)
        self._table = table
        return len(self._edits)

    def _kept_edits(self):
        """The edits that stand, the tables, and what was taken back, in lists of their own."""
        return (list(self._edits), list(self._tables), list(self._undone))

    def _put(self, edits, sizes):
        """Sets what _kept_edits told, and the kept answers."""
        self._edits, self._tables, self._undone = edits
        self._table = self._tables[-1]
        self._sizes = sizes
