"""[D5], and what [D6] says of how many tables there are."""

import unittest
from itertools import combinations, product
from math import comb, factorial

from keyriders.lots import all_lots
from keyriders.sizes import all_count, table_count
from keyriders.tables import both, deed_table, still, table_error
from tests.helper import check_call
from tests.test_deeds import all_deeds
from tests.test_tables import entries_of


def all_kinds(n):
    """Return all ascending tuples of kinds of n, () left out."""
    return [kinds for size in range(1, n) for kinds in combinations(range(n - 1), size)]


def told_count(n, kinds):
    """Return the number of tables by the words of [D6]."""
    if kinds == (0,):
        return factorial(n)
    above = [kind for kind in kinds if kind != 0]
    j = above[0]
    count = factorial(n - j) ** comb(n, j)
    for m in range(j + 1, n - 1):
        many = comb(n, m)
        assert factorial(many) * factorial(n - m) ** many % 4 == 0
        count *= factorial(many) * factorial(n - m) ** many // 4
    count *= factorial(n) // 2
    count *= 2 ** (len(above) - 1)
    return count * factorial(n) if 0 in kinds else count


def reached(n, deeds):
    """Return how many tables programs of some deeds do, found one by one."""
    tables = [deed_table(n, deed) for deed in deeds]
    found, left = {still(n)}, [still(n)]
    while left:
        table = left.pop()
        for deed in tables:
            behind = both(n, table, deed)
            if behind not in found:
                found.add(behind)
                left.append(behind)
    return len(found)


class AllCountTest(unittest.TestCase):
    def test_the_examples(self):
        self.assertEqual((all_count(3), all_count(4)), (1728, 825564856320))

    def test_each_n(self):
        for n in range(3, 11):
            told = 1
            for m in range(n + 1):
                told *= factorial(comb(n, m)) * factorial(n - m) ** comb(n, m)
            self.assertEqual(check_call(self, all_count, n=n), told)

    def test_tables_of_three_places_one_by_one(self):
        lots = all_lots(3)
        many = sum(1 for value in product(*[entries_of(3, lot) for lot in lots]) if table_error(3, value) is None)
        self.assertEqual(many, all_count(3))


class TableCountTest(unittest.TestCase):
    def test_the_examples(self):
        self.assertEqual([table_count(5, kinds) for kinds in ((0,), (3,), (0, 3))], [120, 61440, 7372800])
        self.assertEqual([table_count(5, kinds) for kinds in ((2,), (2, 3))], [3370285969440768000, 6740571938881536000])
        self.assertEqual(table_count(6, (1, 2, 3, 4)), 8 * table_count(6, (1,)))

    def test_all_kinds(self):
        for n in range(5, 11):
            for kinds in all_kinds(n):
                self.assertEqual(check_call(self, table_count, n=n, kinds=kinds), told_count(n, kinds))

    def test_the_kind_none_alone(self):
        for n in range(5, 11):
            self.assertEqual(table_count(n, (0,)), factorial(n))

    def test_the_greatest_kind_alone(self):
        for n in range(5, 11):
            self.assertEqual(table_count(n, (n - 2,)), 2 ** comb(n, 2) * factorial(n) // 2)

    def test_with_the_kind_none_and_without(self):
        for n in range(5, 11):
            for kinds in all_kinds(n):
                if kinds[0] > 0:
                    self.assertEqual(table_count(n, (0,) + kinds), factorial(n) * table_count(n, kinds))

    def test_they_divide_all(self):
        for n in range(5, 11):
            for kinds in all_kinds(n):
                self.assertEqual(all_count(n) % table_count(n, kinds), 0)
                self.assertLess(table_count(n, kinds), all_count(n))

    def test_tables_one_by_one(self):
        self.assertEqual(reached(5, [deed for deed in all_deeds(5) if deed[0] == ()]), table_count(5, (0,)))
        # Deeds of the kind 3 lead the holes alone, and riders at ten lots: those of three lots lead three holes.
        some = [((2, 3, 4), 0, 1), ((0, 3, 4), 1, 2), ((1, 3, 4), 0, 2)]
        self.assertEqual(reached(5, some), 2 ** 3 * factorial(3) // 2)
