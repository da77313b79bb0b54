"""Deeds: exchanges of what lies at two places, if all places of a lot hold keys."""

from keyriders.lots import lot_error
from keyriders.values import is_between, is_tuple_of


def deed_error(n, value):
    """Return None if value is a deed of n, otherwise the word of what is wrong with it."""
    if not is_tuple_of(value, 3):
        return "form"
    lot, a, b = value
    if lot_error(n, lot) is not None:
        return "lot"
    if not is_between(a, 0, n - 1) or not is_between(b, a + 1, n - 1) or a in lot or b in lot:
        return "places"
    return None


def done(standing, deed):
    """Return the standing behind a deed."""
    lot, a, b = deed
    if any([standing[place] != 0 for place in lot]):
        return standing
    items = list(standing)
    items[a] = standing[b]
    items[b] = standing[a]
    return tuple(items)
