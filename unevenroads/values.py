"""Questions about values of any kind."""


def is_integer(value):
    """Whether value is an int that is no bool."""
    return isinstance(value, int) and not isinstance(value, bool)


def is_from_to(value, least, greatest):
    """Whether value is an integer from least to greatest."""
    return is_integer(value) and least <= value <= greatest


def is_tuple_of(value, many):
    """Whether value is a tuple of so many items."""
    return isinstance(value, tuple) and len(value) == many


def is_same(value, told):
    """Whether value is just what is told: None, an integer, or a tuple of such and of further tuples."""
    if isinstance(told, tuple):
        return is_tuple_of(value, len(told)) and all([is_same(item, own) for item, own in zip(value, told)])
    if told is None:
        return value is None
    return is_integer(value) and value == told
