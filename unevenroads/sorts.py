"""The sort of a standing: what all standings that are joined to it have in common."""

from unevenroads.kinds import kind_of
from unevenroads.standings import is_even
from unevenroads.walls import is_near, walls_of


def sort_of(web, standing):
    """("even",), ("walls", number), ("near",) or ("rest",)."""
    if is_even(web, standing):
        return ("even",)
    kind = kind_of(web)
    if kind in ("path", "ring"):
        return ("walls", len(walls_of(web, standing)))
    if kind == "parted" and is_near(web, standing):
        return ("near",)
    return ("rest",)
