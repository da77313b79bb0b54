"""Sizes: how many tables there are, and how many of them programs of some kinds do."""

from math import comb, factorial

from keyriders.values import least_kind


def all_count(n):
    """Return how many tables of n there are."""
    return product_of([_ways_of_size(n, size) for size in range(n + 1)])


def _ways_of_size(n, size):
    """Return in how many ways a table may lead the lots of a size."""
    many = comb(n, size)
    return factorial(many) * product_of([factorial(n - size)] * many)


def product_of(numbers):
    """Return the product of some numbers."""
    result = 1
    for number in numbers:
        result = result * number
    return result


def table_count(n, kinds):
    """Return how many tables of n there are for which there is a program of kinds."""
    j = least_kind(kinds)
    count = 1 if j is None else _keyed_count(n, j, len([kind for kind in kinds if kind > j]))
    return count * factorial(n) if 0 in kinds else count


def _keyed_count(n, j, others):
    """Return how many tables there are with a program of the kind j and so many greater ones."""
    # The signs of lots of more than j places are told by the lesser lots, but for each kind above j.
    count = product_of([factorial(n - j)] * comb(n, j))
    for size in range(j + 1, n - 1):
        count = count * (_ways_of_size(n, size) // 4)
    return count * (factorial(n) // 2) * product_of([2] * others)
