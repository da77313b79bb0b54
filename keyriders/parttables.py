"""Part tables: tables told in part, and how they can be finished."""

from math import factorial

from keyriders.barring import is_paper, paper_among
from keyriders.errors import Barred
from keyriders.filling import filled_entries, told_aims, wished_row
from keyriders.lots import all_lots, numbers_of
from keyriders.signs import carryings_sign, kind_signs, sign_of, sum_of_rows
from keyriders.sizes import product_of
from keyriders.tables import goal, is_entry
from keyriders.values import is_between, is_tuple_of, least_kind


def part_error(n, value):
    """Return None if value is a part table of n, otherwise what is wrong with it."""
    if not isinstance(value, tuple):
        return "form"
    lots = all_lots(n)
    for place, item in enumerate(value):
        if not is_tuple_of(item, 2) or not is_between(item[0], 0, len(lots) - 1):
            return ("number", place)
    for place, (number, entry) in enumerate(value):
        if not is_entry(n, lots[number], entry):
            return ("entry", place)
    for place in range(1, len(value)):
        if value[place][0] <= value[place - 1][0]:
            return ("order", place)
    goals = [goal(n, entry) for _, entry in value]
    for place, aim in enumerate(goals):
        if aim in goals[:place]:
            return ("goal", place)
    return None


def told_signs(n, part):
    """Return the pairs of signs of all tables that agree with a part table, None for each sign that is not told."""
    told = dict(part)
    return tuple([_told_pair(n, size, told) for size in range(n + 1)])


def _told_pair(n, size, told):
    """Return the signs s and t of the lots of a size as entries tell them, None for what they do not tell."""
    numbers = numbers_of(n, size)
    untold = _untold(n, size, told)
    s = sign_of(told_aims(n, size, told)) if len(untold) <= 1 else None
    if size >= n - 1:
        return (s, 0)
    return (s, carryings_sign([told[number] for number in numbers]) if untold == [] else None)


def _untold(n, size, told):
    """Return the list of the numbers of the lots of a size that have no entry."""
    return [number for number in numbers_of(n, size) if number not in told]


def finished(n, kinds, part):
    """Return a table that agrees with a part table, and that a program of kinds does."""
    row = told_signs(n, part)
    paper = paper_among(n, kinds, part, row)
    if paper is not None:
        raise Barred(paper)
    told = dict(part)
    entries = []
    for size, signs in enumerate(wished_row(n, kinds, row)):
        entries.extend(filled_entries(n, size, told, signs))
    return tuple(entries)


def part_holds(n, kinds, part, value):
    """Return whether value is a paper of kinds and a part table."""
    return is_paper(n, kinds, part, told_signs(n, part), value)


def finish_count(n, kinds, part):
    """Return how many tables agree with a part table and are done by programs of kinds."""
    row = told_signs(n, part)
    if paper_among(n, kinds, part, row) is not None:
        return 0
    told = dict(part)
    ways = [_ways_of_size(n, least_kind(kinds), size, len(_untold(n, size, told))) for size in range(n + 1)]
    return _met_count(n, kinds, row) * product_of(ways)


def _met_count(n, kinds, row):
    """Return how many lots of kinds have a sum of rows that meets a row where this is told."""
    sums = [sum_of_rows(n, [])]
    for k in kinds:
        sums = sums + [sum_of_rows(n, [one, kind_signs(n, k)]) for one in sums]
    return len([one for one in sums if _meets(one, row)])


def _meets(one, row):
    """Return whether a row has all signs that another one tells."""
    return all([told in (None, sign) for pair, told_pair in zip(one, row) for sign, told in zip(pair, told_pair)])


def _ways_of_size(n, j, size, untold):
    """Return in how many ways so many untold lots of a size can be led, both signs of this size being fixed."""
    if size < j:
        return 1
    riders = _half(product_of([factorial(n - size)] * untold))
    return riders if size == j else riders * _half(factorial(untold))


def _half(ways):
    """Return how many of some ways have the sign that is asked: half of them, or the only one."""
    return ways // 2 if ways > 1 else ways
