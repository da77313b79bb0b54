"""Lots: ascending tuples of places, their order and their numbers."""

from math import comb

from keyriders.bounds import MAX_TABLE
from keyriders.errors import TooMany, Unfit
from keyriders.values import is_between


def lot_error(n, value):
    """Return None if value is a lot of n, otherwise what is wrong with it."""
    if not isinstance(value, tuple):
        return "form"
    least = 0
    for spot, item in enumerate(value):
        if not is_between(item, least, n - 1):
            return ("item", spot)
        least = item + 1
    return None


def lots_of(n, size):
    """Return the ascending tuple of all lots of n with so many places."""
    lots = [()]
    for _ in range(size):
        lots = [lot + (place,) for lot in lots for place in range(lot[-1] + 1 if lot else 0, n)]
    return tuple(lots)


def all_lots(n):
    """Return the tuple of all lots of n, in order."""
    if n > MAX_TABLE:
        raise TooMany(MAX_TABLE)
    return tuple([lot for size in range(n + 1) for lot in lots_of(n, size)])


def lot_number(n, lot):
    """Return how many lots of n stand ahead of a lot."""
    size = len(lot)
    number = sum([comb(n, fewer) for fewer in range(size)])
    least = 0
    for spot, place in enumerate(lot):
        number += sum([comb(n - 1 - lesser, size - 1 - spot) for lesser in range(least, place)])
        least = place + 1
    return number


def numbers_of(n, size):
    """Return the list of the numbers of all lots of n with so many places."""
    first = lot_number(n, tuple(range(size)))
    return list(range(first, first + comb(n, size)))


def lot_at(n, number):
    """Return the lot of n with a number."""
    if number < 0:
        raise Unfit()
    ahead = number
    for size in range(n + 1):
        if ahead < comb(n, size):
            return _lot_of_size_at(n, size, ahead)
        ahead -= comb(n, size)
    raise Unfit()


def _lot_of_size_at(n, size, number):
    """Return the lot with a number among the lots of one size."""
    lot = []
    ahead = number
    for place in range(n):
        if len(lot) == size:
            break
        with_place = comb(n - 1 - place, size - 1 - len(lot))
        if ahead < with_place:
            lot.append(place)
        else:
            ahead -= with_place
    return tuple(lot)
