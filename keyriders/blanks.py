"""Blanks: programs for riders that nobody tells apart, where just the goals of lots are seen."""

from keyriders.barring import is_moved_paper, is_signs_paper, signs_paper
from keyriders.errors import Barred
from keyriders.filling import entries_to, wished_row
from keyriders.lots import all_lots, lot_number, numbers_of
from keyriders.signs import sign_of
from keyriders.tables import aims_of
from keyriders.values import least_kind
from keyriders.writing import written


def goals_of(n, table):
    """Return the tuple of the numbers of the goals of all lots."""
    return tuple(aims_of(n, table))


def blank_written(n, kinds, goals):
    """Return a program of kinds whose table has these goals."""
    row = _goals_row(n, goals)
    paper = _goals_paper(n, kinds, goals, row)
    if paper is not None:
        raise Barred(paper)
    entries = []
    for size, (_, t) in enumerate(wished_row(n, kinds, row)):
        aims = [goals[number] for number in numbers_of(n, size)]
        entries.extend(entries_to(n, size, {}, aims, t))
    return written(n, kinds, tuple(entries))


def _goals_row(n, goals):
    """Return the row of the signs s that goals tell, with None for each sign t."""
    return tuple([(sign_of([goals[number] for number in numbers_of(n, size)]), None) for size in range(n + 1)])


def _goals_paper(n, kinds, goals, row):
    """Return a paper of kinds and goals, None if there is none."""
    for lot in all_lots(n):
        if _is_moved(n, kinds, goals, lot):
            return ("moved", lot)
    return signs_paper(n, kinds, row)


def _is_moved(n, kinds, goals, lot):
    """Return whether a lot that no program of kinds leads elsewhere has another goal than itself."""
    number = lot_number(n, lot)
    return len(lot) <= least_kind(kinds) and goals[number] != number


def blank_holds(n, kinds, goals, value):
    """Return whether value is a paper of kinds and goals."""
    if is_moved_paper(n, value):
        return _is_moved(n, kinds, goals, value[1])
    return is_signs_paper(n, kinds, _goals_row(n, goals), value)
