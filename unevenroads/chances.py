"""With which chance a web stands so or so, if deeds are drawn."""

from unevenroads.bounds import MAX_SEEN
from unevenroads.classes import class_size
from unevenroads.errors import TooMany
from unevenroads.reaches import let_ends
from unevenroads.terms import in_least_terms


def chances(web, standing, draws):
    """The pairs (standing, chance), ascending, of all standings in which the web can be behind so many draws."""
    numbers = {standing: 1}
    ends = {}
    below = 1
    for _ in range(draws):
        numbers = _behind_draw(web, numbers, ends)
        below *= 2 * len(web[1])
    return tuple([(further, in_least_terms(numbers[further], below)) for further in sorted(numbers)])


def _behind_draw(web, numbers, ends):
    """For each standing behind one draw more, by how many rows of draws the web comes to stand so.

    numbers tells it ahead of this draw; ends keeps which standings the deeds of a standing lead to.
    """
    behind = {}
    for here, number in numbers.items():
        if here not in ends:
            ends[here] = [further for _, further in let_ends(web, here)]
        idle = 2 * len(web[1]) - len(ends[here])
        # Where all draws do something the web can't stay as it stands.
        if idle > 0:
            behind[here] = behind.get(here, 0) + number * idle
        for further in ends[here]:
            behind[further] = behind.get(further, 0) + number
        if len(behind) > MAX_SEEN:
            raise TooMany(MAX_SEEN)
    return behind


def long_run(web, standing):
    """The chance, in the long run, of each standing of the class."""
    return (1, class_size(web, standing))
