"""Which standings are joined, and ways between them or papers that there is none."""

from unevenroads.errors import NotJoined
from unevenroads.leading import led_to_base
from unevenroads.sorts import sort_of
from unevenroads.ways import shortened, turned


def class_of(web, standing):
    """What all standings of the class have in common: ("even",), ("walls", number), ("near",) or ("rest",)."""
    return sort_of(web, standing)


def joined(web, one, other):
    """Whether some way leads from one to the other."""
    if one == other:
        return True
    sort = sort_of(web, one)
    return sort != ("even",) and sort == sort_of(web, other)


def way_between(web, one, other):
    """A way from one to the other; NotJoined with a paper if there is none."""
    check_joined(web, one, other)
    if one == other:
        return ()
    way = led_to_base(web, one) + turned(led_to_base(web, other))
    return shortened(web, one, way)


def check_joined(web, one, other):
    """Raises NotJoined with a paper if no way leads from one to the other."""
    if not joined(web, one, other):
        raise NotJoined(_paper_of(sort_of(web, one), sort_of(web, other)))


def _paper_of(sort, further):
    """The paper of two unlike standings of these sorts that are not joined."""
    for side, own in enumerate((sort, further)):
        if own == ("even",):
            return ("even", side)
    if sort[0] == "walls":
        return ("walls", sort[1], further[1])
    return ("near", 0 if sort == ("near",) else 1)
