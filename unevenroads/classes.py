"""The classes of a web and how many standings they have."""

from math import comb

from unevenroads.evens import even_count, many_standings
from unevenroads.kinds import kind_of
from unevenroads.parted import elder_tree
from unevenroads.sorts import sort_of
from unevenroads.values import is_from_to, is_tuple_of


def uneven_classes(web):
    """The pairs (sort, size), ascending, of all classes of uneven standings."""
    even = even_count(web)
    kind = kind_of(web)
    if kind == "pair":
        return ()
    if kind in ("path", "ring"):
        sorts = [("walls", k) for k in range(2, web[0], 2)]
        return tuple([(sort, counted_size(web, sort)) for sort in sorts])
    others = many_standings(web) - even
    if kind == "parted":
        near = counted_size(web, ("near",))
        return ((("near",), near), (("rest",), others - near))
    return ((("rest",), others),)


def counted_size(web, sort):
    """The size of the class sort, if it is a class of walls or that of the near standings; None for all else."""
    kind = kind_of(web)
    if kind == "parted" and sort == ("near",):
        spots, middles = elder_tree(web)
        return len(spots) + len(middles)
    if kind not in ("path", "ring") or not is_tuple_of(sort, 2) or sort[0] != "walls":
        return None
    if not is_from_to(sort[1], 1, web[0] - 1) or sort[1] % 2 == 1:
        return None
    if kind == "path":
        return comb(web[0], sort[1])
    return 2 * comb(web[0], sort[1])


def class_size(web, standing):
    """How many standings are joined to this one, itself too; TooMany as uneven_classes, if it is uneven."""
    sort = sort_of(web, standing)
    if sort == ("even",):
        return 1
    return dict(uneven_classes(web))[sort]


def class_count(web):
    """How many lots of joined standings there are."""
    return even_count(web) + len(uneven_classes(web))
