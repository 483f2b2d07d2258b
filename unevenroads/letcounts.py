"""How many deeds the standings of a class let, by formulas."""

from math import comb

from unevenroads.classes import counted_size
from unevenroads.errors import Unfit
from unevenroads.kinds import kind_of
from unevenroads.parted import elder_tree
from unevenroads.terms import in_least_terms


def let_total(web, sort):
    """How many deeds the standings of the class sort let together; Unfit if it is no class of walls or near ones."""
    if counted_size(web, sort) is None:
        raise Unfit()
    if sort == ("near",):
        spots, _ = elder_tree(web)
        return 4 * (len(spots) - 1)
    if kind_of(web) == "path":
        roads = len(web[1])
        return 2 * roads * comb(roads - 1, sort[1] - 1)
    return 4 * web[0] * comb(web[0] - 2, sort[1] - 1)


def mean_let(web, sort):
    """How many deeds a standing of the class sort lets in the mean; Unfit where let_total raises it."""
    return in_least_terms(let_total(web, sort), counted_size(web, sort))
