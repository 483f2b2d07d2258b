"""How many deeds it takes, at least, to come to the other standings of a class."""

from unevenroads.bounds import MAX_SEEN
from unevenroads.joining import joined
from unevenroads.reaches import reach, way_to


def _steps(web, standing):
    """A dict: the steps to each standing of the class, fewer ones ahead; TooMany if there are too many standings."""
    steps = {}
    for further, behind in reach(web, standing, (), MAX_SEEN).items():
        steps[further] = 0 if behind is None else steps[behind[0]] + 1
    return steps


def spheres(web, standing):
    """For each number of steps, from 0 on, how many standings of the class are so many steps away."""
    numbers = []
    for steps in _steps(web, standing).values():
        if steps == len(numbers):
            numbers.append(0)
        numbers[steps] += 1
    return tuple(numbers)


def farthest(web, standing):
    """The most steps that there are, and the least standing that is so many steps away."""
    steps = _steps(web, standing)
    most = max(steps.values())
    return (most, min([further for further, many in steps.items() if many == most]))


def least_way(web, one, other):
    """A way with the fewest deeds from one to the other; None if they are not joined."""
    if one == other:
        return ()
    if not joined(web, one, other):
        return None
    return way_to(reach(web, one, (), MAX_SEEN), other)
