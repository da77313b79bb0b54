"""What the other modules ask of single values, of numbers in texts, and of kinds."""


def is_between(value, least, most):
    """Return whether value is an integer, and no bool, from least to most."""
    return isinstance(value, int) and not isinstance(value, bool) and least <= value <= most


def is_tuple_of(value, size):
    """Return whether value is a tuple of so many items."""
    return isinstance(value, tuple) and len(value) == size


def read_number(text, most):
    """Return the integer from 0 to most whose text in plain figures this is, None if there is none."""
    # The length comes first: Python refuses to read figures by thousands.
    if len(text) > len(str(most)) or not text.isascii() or not text.isdigit():
        return None
    number = int(text)
    if number > most or str(number) != text:
        return None
    return number


def least_kind(kinds):
    """Return the least of some kinds that is above 0, None if there is none."""
    return min([kind for kind in kinds if kind > 0], default=None)
