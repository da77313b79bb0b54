"""Standings: what lies at each place, 0 for a key, for a rider its number."""

from keyriders.bounds import MAX_RIDER
from keyriders.values import is_between, is_tuple_of


def standing_error(n, value):
    """Return None if value is a standing of n, otherwise what is wrong with it."""
    if not is_tuple_of(value, n):
        return "form"
    for spot, item in enumerate(value):
        if not is_between(item, 0, MAX_RIDER):
            return ("item", spot)
    for spot, item in enumerate(value):
        if item > 0 and item in value[:spot]:
            return ("twice", spot)
    return None


def keys_of(standing):
    """Return the lot of all places with a key."""
    return tuple([place for place, item in enumerate(standing) if item == 0])
