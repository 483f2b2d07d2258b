"""Questions about values of any kind."""


def is_integer(value):
    """Whether value is an int that is no bool."""
    return isinstance(value, int) and not isinstance(value, bool)


def is_from_to(value, least, greatest):
    """Whether value is an integer from least to greatest."""
    return is_integer(value) and least <= value <= greatest


def is_tuple_of(value, many):
    """Whether value is a tuple of so many items."""
    return isinstance(value, tuple) and len(value) == many
