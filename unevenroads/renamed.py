"""Webs and standings with new names for their places."""


def renamed_web(web, names):
    """The web in which place x is names[x], and for each of its roads which road it was."""
    n, roads, most = web
    named = []
    for road, (a, b) in enumerate(roads):
        ends = (min(names[a], names[b]), max(names[a], names[b]))
        named.append((ends, road))
    named = sorted(named)
    order = tuple([road for _, road in named])
    return (n, tuple([ends for ends, _ in named]), tuple([most[road] for road in order])), order


def renamed_standing(web, names, standing):
    """The standing of the renamed web in which each road bears the load that it had."""
    _, order = renamed_web(web, names)
    return tuple([standing[road] for road in order])
