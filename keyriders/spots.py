"""Spots: pairs that tell single signs of rows, (m, 0) the sign s of the lots of m places and (m, 1) the sign t.

Here a row may hold None in the place of a sign that is not told.
"""

from keyriders.signs import kind_signs
from keyriders.values import is_between, is_tuple_of


def bars(n, kinds, row, value):
    """Return whether value is a tuple of told spots that are even together for each kind above 0, and odd for a row."""
    # No spots at all are even for the row, too.
    if not _are_told_spots(n, row, value) or _sum_at(row, value) == 0:
        return False
    return all([_sum_at(kind_signs(n, k), value) == 0 for k in kinds if k > 0])


def _are_told_spots(n, row, value):
    """Return whether value is an ascending tuple of spots that a row tells."""
    if not isinstance(value, tuple):
        return False
    for item in value:
        if not is_tuple_of(item, 2) or not is_between(item[0], 0, n) or not is_between(item[1], 0, 1):
            return False
    if any([value[at] >= value[at + 1] for at in range(len(value) - 1)]):
        return False
    return all([row[m][side] is not None for m, side in value])


def _sum_at(row, spots):
    """Return the sum modulo 2 of the signs of a row at some spots."""
    return sum([row[m][side] for m, side in spots]) % 2


def unmet_spots(n, kinds, row):
    """Return spots that bar a row from being told by kinds above 0; None if these have a sum that meets it."""
    for spots, odd, sign in _equations(n, kinds, row):
        if odd == [] and sign == 1:
            return tuple(spots)
    return None


def met_kinds(n, kinds, row):
    """Return some of the kinds above 0 whose rows have a sum that meets a row where this is told, if there are such."""
    # An equation may hold the first kinds of those behind it, but of none ahead: so the last one is met first.
    met = []
    for _, odd, sign in _equations(n, kinds, row)[::-1]:
        if sum([1 for k in odd if k in met]) % 2 != sign:
            met.append(odd[0])
    return tuple(sorted(met))


def _equations(n, kinds, row):
    """Return what the told signs of a row ask, in steps: spots, the kinds that are odd there together, and their sign.

    Of two equations with kinds the later one does not hold the first kind of the one ahead.
    """
    equations = []
    for spot in _told_spots(row):
        m, side = spot
        spots = [spot]
        odd = [k for k in kinds if k > 0 and kind_signs(n, k)[m][side] == 1]
        sign = row[m][side]
        for other_spots, other_odd, other_sign in equations:
            if other_odd != [] and other_odd[0] in odd:
                spots = sorted(set(spots) ^ set(other_spots))
                odd = sorted(set(odd) ^ set(other_odd))
                sign = sign ^ other_sign
        equations.append((spots, odd, sign))
    return equations


def _told_spots(row):
    """Return the list of the spots that a row tells, in order."""
    return [(m, side) for m, pair in enumerate(row) for side in (0, 1) if pair[side] is not None]
