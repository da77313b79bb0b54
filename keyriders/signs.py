"""Signs: whether a table exchanges lots of each size, and riders at them, an odd number of times."""

from math import comb

from keyriders.lots import numbers_of
from keyriders.programs import program_worth
from keyriders.tables import aims_of


def signs_of(n, table):
    """Return the row of a table."""
    aims = aims_of(n, table)
    row = []
    for size in range(n + 1):
        numbers = numbers_of(n, size)
        s = sign_of([aims[number] for number in numbers])
        row.append((s, carryings_sign([table[number] for number in numbers])))
    return tuple(row)


def carryings_sign(entries):
    """Return the sum modulo 2 of the signs of the carryings of some entries."""
    return sum([sign_of([place for place in entry if place != -1]) for entry in entries]) % 2


def sign_of(ways):
    """Return 1 if an odd number of pairs of things, told by where they go, comes to stand the other way about, or 0."""
    turned = sum([1 for spot, way in enumerate(ways) for ahead in ways[:spot] if ahead > way])
    return turned % 2


def kind_signs(n, k):
    """Return the row of each deed of the kind k."""
    free = n - 2 - k
    return tuple([(_choices(free, size - 1 - k) % 2, _choices(free, size - k) % 2) for size in range(n + 1)])


def _choices(many, some):
    """Return in how many ways so many of many things can be chosen, 0 if they are fewer than none."""
    return comb(many, some) if some >= 0 else 0


class SignsMeasure:
    """The row of the table of what is done, for n places."""

    def __init__(self, n):
        self._n = n

    def of_deed(self, deed):
        """Return the row of a deed."""
        return kind_signs(self._n, len(deed[0]))

    def of_row(self, worths):
        """Return the row of terms done one behind another."""
        return sum_of_rows(self._n, worths)

    def of_back(self, worth):
        """Return the row of what is undone."""
        return worth

    def of_times(self, worth, k):
        """Return the row of what is done k times."""
        return sum_of_rows(self._n, [worth] if k % 2 == 1 else [])


def sum_of_rows(n, rows):
    """Return the sum of some rows of n."""
    sums = [(0, 0)] * (n + 1)
    for row in rows:
        sums = [(s ^ one, t ^ other) for (s, t), (one, other) in zip(sums, row)]
    return tuple(sums)


def program_signs(n, program):
    """Return the row of the table of a program, which is not done."""
    return program_worth(program, SignsMeasure(n))


def kinds_in(n, row):
    """Return the ascending tuple of the kinds whose rows have a row as their sum, None if there are none."""
    # The row of a kind k is the first one with a t at k: so the least kinds are told first, and then taken off.
    kinds = []
    left = row
    for k in range(n - 1):
        if left[k][1] == 1:
            kinds.append(k)
            left = sum_of_rows(n, [left, kind_signs(n, k)])
    return tuple(kinds) if left == sum_of_rows(n, []) else None
