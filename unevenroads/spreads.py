"""How an amount is shared out among items that lack something."""


class Spread:
    """Shares amounts out, an item getting at most most; what was worked out is kept."""

    def __init__(self, most):
        self.most = most
        self.told = {}

    def shares(self, lacks, amount):
        """All ways to share the amount out among items that lack so much, the same lacks one behind another.

        A list of pairs (shares, in how many orders they come). Shares of items that lack the same may be exchanged,
        and are told in descending order only. Some may be greater than what their items lack.
        """
        alike = tuple([i > 0 and lacks[i] == lacks[i - 1] for i in range(len(lacks))])
        if (alike, amount) not in self.told:
            self.told[(alike, amount)] = _shares(alike, amount, self.most)
        return self.told[(alike, amount)]


def _shares(alike, amount, most):
    """What shares tells; alike tells of each item whether it lacks as much as the one ahead."""
    # With the shares so far stand their orders, what is left, how many of the last items are alike, and how many of
    # these have the last share.
    found = [((), 1, amount, 0, 0)]
    for i, same in enumerate(alike):
        behind = len(alike) - i - 1
        longer = []
        for shares, orders, left, many, equal in list(found):
            greatest = min(left, shares[-1] if same else most)
            for share in range(max(0, left - behind * most), greatest + 1):
                told = shares + (share,)
                if not same:
                    longer.append((told, orders, left - share, 1, 1))
                elif share == shares[-1]:
                    further = orders * (many + 1) // (equal + 1)
                    longer.append((told, further, left - share, many + 1, equal + 1))
                else:
                    longer.append((told, orders * (many + 1), left - share, many + 1, 1))
        found = longer
    return [(shares, orders) for shares, orders, left, _, _ in found if left == 0]
