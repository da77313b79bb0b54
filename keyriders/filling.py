"""Filling: entries for lots of which just some, or just the goals, are told."""

from keyriders.lots import lot_at, lot_number, numbers_of
from keyriders.signs import carryings_sign, kind_signs, sign_of, sum_of_rows
from keyriders.spots import met_kinds
from keyriders.tables import goal


def wished_row(n, kinds, row):
    """Return a sum of the rows of some of the kinds above 0 that meets a row where this is told."""
    return sum_of_rows(n, [kind_signs(n, k) for k in met_kinds(n, kinds, row)])


def told_aims(n, size, told):
    """Return the list of the numbers of goals for all lots of a size; untold lots go, in order, where none else does.

    told is a dict that gives the numbers of told lots their entries. Where told lots stay all others stay, too.
    """
    numbers = numbers_of(n, size)
    aims = {number: lot_number(n, goal(n, told[number])) for number in numbers if number in told}
    met = list(aims.values())
    left = [number for number in numbers if number not in met]
    untold = [number for number in numbers if number not in aims]
    aims.update({number: aim for number, aim in zip(untold, left)})
    return [aims[number] for number in numbers]


def filled_entries(n, size, told, signs):
    """Return the list of entries for all lots of a size, with those that are told, such that their signs are these."""
    s, t = signs
    numbers = numbers_of(n, size)
    aims = told_aims(n, size, told)
    if sign_of(aims) != s:
        # Two of them are untold, or else the sign would be told.
        one, other = [spot for spot, number in enumerate(numbers) if number not in told][:2]
        aims[one], aims[other] = aims[other], aims[one]
    return entries_to(n, size, told, aims, t)


def entries_to(n, size, told, aims, t):
    """Return the list of entries for all lots of a size, with those that are told, to these goals, with the sign t."""
    numbers = numbers_of(n, size)
    entries = []
    for number, aim in zip(numbers, aims):
        entries.append(told[number] if number in told else _entry_to(n, lot_at(n, number), lot_at(n, aim)))
    if carryings_sign(entries) != t:
        # One of them is untold, or else the sign would be told.
        first = [spot for spot, number in enumerate(numbers) if number not in told][0]
        entries[first] = _with_two_exchanged(entries[first])
    return entries


def _entry_to(n, lot, aim):
    """Return the entry that leads a lot to its goal, and its riders in their order."""
    entry = [-1] * n
    starts = [place for place in range(n) if place not in lot]
    ends = [place for place in range(n) if place not in aim]
    for start, end in zip(starts, ends):
        entry[start] = end
    return tuple(entry)


def _with_two_exchanged(entry):
    """Return an entry with the ways of its first two riders exchanged."""
    one, other = [place for place, way in enumerate(entry) if way != -1][:2]
    ways = list(entry)
    ways[one] = entry[other]
    ways[other] = entry[one]
    return tuple(ways)
