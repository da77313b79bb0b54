"""Rings and pairs: programs that lead three things round, or exchange riders at two lots."""

from keyriders.errors import Unfit
from keyriders.values import least_kind


def ring_program(n, kinds, lot, a, b, d):
    """Return a program of kinds that leads what lies at a to b, at b to d, and at d to a, if a lot holds keys."""
    j = least_kind(kinds)
    if j is None or not j <= len(lot) <= n - 3 or not _are_unlike(lot + (a, b, d)):
        raise Unfit()
    return (ring_term(j, lot, a, b, d),)


def _are_unlike(places):
    """Return whether no two of some places are one."""
    return len(set(places)) == len(places)


def ring_term(j, lot, a, b, d):
    """Return the term of the ring of a lot of j places or more, by deeds of the kind j."""
    if len(lot) == j:
        return commutator(deed_term(lot, a, b), deed_term(lot, b, d))
    # If the last place of the lot holds no key, the deed does nothing; if another one holds none, the lesser ring does
    # nothing: and a commutator of which one program does nothing does nothing.
    other = lot[len(lot) - j:]
    return commutator(ring_term(j, lot[:-1], a, b, d), deed_term(other, a, b))


def deed_term(lot, a, b):
    """Return the term of the deed that exchanges what lies at a and b if the places of a lot hold keys."""
    return ("do", (lot, min(a, b), max(a, b)))


def commutator(one, other):
    """Return the term that undoes one, undoes other, does one, does other."""
    return ("row", (("back", one), ("back", other), one, other))


def pair_program(n, kinds, lot, a, b, c, d):
    """Return a program of kinds that exchanges riders at two lots of so many places, and at none of less.

    It exchanges those at c and d where lot, a and b hold the keys, and those at b and d where lot, a and c hold them.
    """
    j = least_kind(kinds)
    if j is None or not j - 1 <= len(lot) <= n - 4 or not _are_unlike(lot + (a, b, c, d)):
        raise Unfit()
    rings = rings_of_pair(j, lot, a, b, c, d)
    # Both lead the same three lots round the same way: behind one, and the other undone, only riders have moved.
    rounds = (commutator(("part", 0), ("part", 1)), commutator(("part", 2), ("part", 3)))
    return rings + rounds + (("row", (("part", 4), ("back", ("part", 5)))),)


def rings_of_pair(j, lot, a, b, c, d):
    """Return the terms of the rings of both commutators of a pair."""
    with_a = tuple(sorted(lot + (a,)))
    with_b = tuple(sorted(lot + (b,)))
    with_c = tuple(sorted(lot + (c,)))
    return (
        ring_term(j, with_b, a, c, d), ring_term(j, with_a, b, c, d),
        ring_term(j, with_c, b, a, d), ring_term(j, with_b, c, a, d),
    )
