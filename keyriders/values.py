"""What the other modules ask of single values."""


def is_between(value, least, most):
    """Return whether value is an integer, and no bool, from least to most."""
    return isinstance(value, int) and not isinstance(value, bool) and least <= value <= most
