"""Barring: papers, which show that no program of kinds does a table."""

from keyriders.cores import core_of, is_still
from keyriders.lots import lot_at, lot_error, lot_number
from keyriders.signs import signs_of
from keyriders.spots import bars, unmet_spots
from keyriders.tables import goal
from keyriders.values import is_tuple_of, least_kind


def paper_holds(n, kinds, table, value):
    """Return whether value is a paper of kinds and a table."""
    core = core_of(n, kinds, table)
    return is_paper(n, kinds, list(enumerate(core)), signs_of(n, core), value)


def is_paper(n, kinds, told, row, value):
    """Return whether value is a paper of kinds and of told entries, pairs of a number and an entry, with told signs."""
    if is_moved_paper(n, value):
        return lot_number(n, value[1]) in _moved_numbers(n, kinds, told)
    return least_kind(kinds) is not None and is_signs_paper(n, kinds, row, value)


def is_moved_paper(n, value):
    """Return whether value has the form of a paper of a lot that is moved."""
    return is_tuple_of(value, 2) and value[0] == "moved" and lot_error(n, value[1]) is None


def is_signs_paper(n, kinds, row, value):
    """Return whether value is a paper of told signs that no kinds meet."""
    return is_tuple_of(value, 2) and value[0] == "signs" and bars(n, kinds, row, value[1])


def _moved_numbers(n, kinds, told):
    """Return the list of the numbers of the lots whose told entries do what no program of kinds does."""
    j = least_kind(kinds)
    return [number for number, entry in told if _is_moved(n, j, lot_at(n, number), entry)]


def _is_moved(n, j, lot, entry):
    """Return whether an entry does to a lot what no program of the kind j and greater ones does."""
    if j is None or len(lot) < j:
        return not is_still(entry)
    return len(lot) == j and goal(n, entry) != lot


def paper_of(n, kinds, table):
    """Return a paper of kinds and a table, None if there is none."""
    core = core_of(n, kinds, table)
    return paper_among(n, kinds, list(enumerate(core)), signs_of(n, core))


def paper_among(n, kinds, told, row):
    """Return a paper of kinds and of told entries with told signs, None if there is none."""
    moved = _moved_numbers(n, kinds, told)
    if moved != []:
        return ("moved", lot_at(n, moved[0]))
    # Of the kind 0 alone all lots stay, so that no sign is odd.
    return signs_paper(n, kinds, row)


def signs_paper(n, kinds, row):
    """Return a paper of told signs that no kinds meet, None if there is none."""
    spots = unmet_spots(n, kinds, row)
    return None if spots is None else ("signs", spots)
