"""Of what kind a value is that may be any value."""


def is_between(value, least, greatest):
    """Whether value is an integer from least to greatest; a bool is none."""
    return isinstance(value, int) and not isinstance(value, bool) and least <= value <= greatest


def is_tuple_of(value, fewest, most):
    """Whether value is a tuple of fewest to most items."""
    return isinstance(value, tuple) and fewest <= len(value) <= most
