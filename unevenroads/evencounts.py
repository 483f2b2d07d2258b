"""How many even boards, and even standings of full webs, there are: by tables of what rows, or places, still lack."""

from unevenroads.spreads import Spread

# What columns lack is written as the figures of one number. No column lacks so much, not even by far.
BASE = 128


def even_boards(m, most, total):
    """How many boards of m rows and columns, with integers from 0 to most, have the sum total everywhere."""
    if not 0 <= total <= m * most:
        return 0
    # With each item taken from most a board with the contrary sum comes of it.
    amount = min(total, m * most - total)
    spread = Spread(most)
    tables = [{(amount,) * m: 1}]
    while len(tables) <= max(1, m // 2):
        tables.append(_behind_row(tables[-1], spread, amount))
    half = tables[m // 2]
    filled = _by_sums(half, amount)
    rows = [0]
    if m % 2 == 1:
        rows = list(_by_sums(tables[1], amount))
    many = 0
    for lacks, ways in half.items():
        code = _code(lacks)
        many += ways * sum([filled.get(code - row, 0) for row in rows])
    return many


def _behind_row(table, spread, amount):
    """A table of what columns lack, in ascending order, and in how many ways, behind one row more."""
    behind = {}
    for lacks, ways in table.items():
        for shares, orders in spread.shares(lacks, amount):
            left = sorted([lack - share for lack, share in zip(lacks, shares)])
            if left[0] >= 0:
                key = tuple(left)
                behind[key] = behind.get(key, 0) + ways * orders
    return behind


def _by_sums(table, amount):
    """For the code of what the columns got, in any order, in how many ways they got just this."""
    told = {}
    for lacks, ways in table.items():
        codes = _codes([amount - lack for lack in lacks])
        for code in codes:
            told[code] = ways // len(codes)
    return told


def _code(items):
    """The number with these figures."""
    code = 0
    for item in items:
        code = code * BASE + item
    return code


def _codes(items):
    """The codes of all unlike orders of items, like ones of which stand together."""
    if not items:
        return [0]
    found = []
    for i, item in enumerate(items):
        if i == 0 or item != items[i - 1]:
            found.extend([code * BASE + item for code in _codes(items[:i] + items[i + 1:])])
    return found


def even_fulls(n, most, total):
    """How many even standings with total the web of n places with all roads, each bearing most, has."""
    if not 0 <= total <= (n - 1) * most:
        return 0
    amount = min(total, (n - 1) * most - total)
    spread = Spread(most)
    table = {(amount,) * n: 1}
    for left in range(n - 1, 0, -1):
        table = _behind_place(table, spread, (left - 1) * most)
    return table.get((0,), 0)


def _behind_place(table, spread, greatest):
    """A table of what the places that are left lack, ascending, and in how many ways, behind one place more.

    greatest is what a place that is left can get from all others.
    """
    behind = {}
    for lacks, ways in table.items():
        place = _soonest(lacks, greatest + spread.most)
        others = lacks[:place] + lacks[place + 1:]
        for shares, orders in spread.shares(others, lacks[place]):
            left = sorted([lack - share for lack, share in zip(others, shares)])
            if left[0] >= 0 and left[-1] <= greatest:
                key = tuple(left)
                behind[key] = behind.get(key, 0) + ways * orders
    return behind


def _soonest(lacks, greatest):
    """The place that lacks next to nothing, or next to greatest: it has the fewest ways."""
    rooms = [min(lack, greatest - lack) for lack in lacks]
    return rooms.index(min(rooms))
