"""How many draws are made in the mean until a web stands in a certain way."""

from unevenroads.bounds import MAX_MEAN
from unevenroads.joining import check_joined
from unevenroads.reaches import let_ends, reach
from unevenroads.terms import in_least_terms


def mean_draws(web, one, other):
    """The mean of how many draws are made from one on until the web first stands as other."""
    check_joined(web, one, other)
    members = list(reach(web, one, (), MAX_MEAN))
    if one == other:
        return (0, 1)
    unknown = [standing for standing in members if standing not in (one, other)] + [one]
    above, below = _last_solved(_equations(web, unknown))
    return in_least_terms(above, below)


def _equations(web, unknown):
    """For the mean of each unknown standing an equation: its factors at all unknown means, and what they make.

    All draws that do nothing are put aside: so many times the own mean as there are deeds, less the means behind
    these, makes as much as there are draws. The mean of the standing that is waited for is nothing.
    """
    place = {standing: at for at, standing in enumerate(unknown)}
    rows = []
    for at, standing in enumerate(unknown):
        row = [0] * len(unknown) + [2 * len(web[1])]
        for _, further in let_ends(web, standing):
            row[at] += 1
            if further in place:
                row[place[further]] -= 1
        rows.append(row)
    return rows


def _last_solved(rows):
    """The pair (above, below) of the last unknown, all rows being so that none has to be exchanged.

    Each number that comes of it is a determinant of some of the first ones: so it can be divided without a rest, and
    stays small.
    """
    many = len(rows)
    divisor = 1
    for k in range(many - 1):
        pivot = rows[k][k]
        for i in range(k + 1, many):
            factor = rows[i][k]
            rows[i] = [(item * pivot - factor * upper) // divisor for item, upper in zip(rows[i], rows[k])]
        divisor = pivot
    return rows[many - 1][many], rows[many - 1][many - 1]
