"""[E2] and [E3]."""

import random
import unittest
from itertools import permutations, product

from keyriders.doing import led, table_of
from keyriders.errors import Unfit
from keyriders.lots import all_lots
from keyriders.programs import kinds_of, length, program_error
from keyriders.rings import pair_program, ring_program
from keyriders.runs import run
from keyriders.signs import program_signs
from keyriders.tables import order_of, power, still
from tests.helper import check_call, check_raise, led_by, raised, table_by
from tests.test_programs import standings
from tests.test_sizes import all_kinds


def least(kinds):
    return next((kind for kind in kinds if kind > 0), None)


def round_table(n, lot, a, b, d):
    """Return the table of a ring."""

    def leads(standing):
        behind = list(standing)
        if all(standing[place] == 0 for place in lot):
            behind[b], behind[d], behind[a] = standing[a], standing[b], standing[d]
        return tuple(behind)

    return table_by(n, leads)


def choices_of(n, lot, many):
    """Return all rows of so many unlike places that are not in a lot."""
    return list(permutations([place for place in range(n) if place not in lot], many))


class RingsTest(unittest.TestCase):
    def setUp(self):
        self.tables = {}

    def table(self, n, kinds, program):
        """Return the table of a program; check that it is a program of n and of kinds."""
        if (n, program) not in self.tables:
            self.assertIsNone(program_error(n, program))
            self.tables[n, program] = table_of(n, program)
        self.assertLessEqual(set(kinds_of(program)), set(kinds))
        return self.tables[n, program]


class RingProgramTest(RingsTest):
    def check(self, n, kinds, lot, a, b, d):
        program = check_call(self, ring_program, n=n, kinds=kinds, lot=lot, a=a, b=b, d=d)
        self.assertEqual(self.table(n, kinds, program), round_table(n, lot, a, b, d), (kinds, lot, a, b, d))

    def check_unfit(self, n, kinds, lot, a, b, d):
        check_raise(self, ring_program, Unfit, {}, n=n, kinds=kinds, lot=lot, a=a, b=b, d=d)

    def test_the_examples(self):
        ring = table_of(5, ring_program(5, (1,), (0,), 1, 2, 3))
        self.assertEqual(led(5, ring, (0, 7, 8, 9, 6)), (0, 9, 7, 8, 6))
        self.assertEqual(led(5, ring, (0, 0, 8, 9, 6)), (0, 9, 0, 8, 6))
        self.assertEqual(led(5, ring, (7, 0, 8, 9, 0)), (7, 0, 8, 9, 0))
        self.check_unfit(5, (2,), (0,), 1, 2, 3)
        self.check_unfit(5, (0,), (0,), 1, 2, 3)

    def test_five_places(self):
        for j in (1, 2):
            for lot in all_lots(5):
                if j <= len(lot) <= 2:
                    for a, b, d in choices_of(5, lot, 3):
                        self.check(5, (j,), lot, a, b, d)

    def test_six_places(self):
        for j in (1, 2, 3):
            for lot in all_lots(6):
                if j <= len(lot) <= 3:
                    for a, b, d in choices_of(6, lot, 3)[::1 if len(lot) == 3 else 5]:
                        self.check(6, (j,), lot, a, b, d)

    def test_all_kinds(self):
        chance = random.Random(90)
        for n in (5, 6):
            for kinds in all_kinds(n):
                for lot in all_lots(n):
                    if len(lot) <= n - 3 and chance.random() < 0.5:
                        a, b, d = chance.choice(choices_of(n, lot, 3))
                        if least(kinds) is None or len(lot) < least(kinds):
                            self.check_unfit(n, kinds, lot, a, b, d)
                        else:
                            self.check(n, kinds, lot, a, b, d)

    def test_unfit_just_where_told(self):
        for n, lots in ((5, all_lots(5)), (6, all_lots(6)[::5])):
            for kinds in all_kinds(n):
                j = least(kinds)
                for lot in lots:
                    for a, b, d in product(range(n), repeat=3):
                        if n == 6 and (a + 2 * b + 3 * d + len(kinds)) % 5:
                            continue
                        right = j is not None and j <= len(lot) <= n - 3 and len({a, b, d, *lot}) == len(lot) + 3
                        error = raised(ring_program, n, kinds, lot, a, b, d)
                        self.assertIs(type(error), type(None) if right else Unfit, (n, kinds, lot, a, b, d))

    def test_too_few_and_too_many_places(self):
        self.check_unfit(5, (1,), (), 1, 2, 3)
        self.check_unfit(5, (0, 2), (4,), 1, 2, 3)
        self.check_unfit(5, (1, 2), (0, 1, 2), 3, 4, 4)
        self.check_unfit(5, (1, 3), (0, 4, 3), 0, 1, 2)
        self.check_unfit(5, (3,), (0, 4), 1, 2, 3)
        self.check_unfit(6, (4,), (0, 1, 2), 3, 4, 5)
        self.check_unfit(6, (4,), (0, 1, 2, 3), 4, 5, 5)
        self.check_unfit(6, (1,), (0, 1, 2, 3, 4), 5, 5, 5)
        self.check_unfit(6, (0, 3), (4, 5), 1, 2, 3)
        self.check(6, (0, 3), (1, 4, 5), 0, 2, 3)
        self.check(6, (0, 1, 3), (1, 4, 5), 3, 2, 0)
        self.check(6, (0, 2, 4), (1, 4), 5, 2, 0)

    def test_places_alike_or_within_the_lot(self):
        for places in ((1, 1, 2), (1, 2, 1), (2, 1, 1), (1, 1, 1), (0, 1, 2), (1, 0, 2), (1, 2, 0), (0, 0, 0)):
            self.check_unfit(5, (1,), (0,), *places)
            self.check_unfit(6, (1, 3), (0, 5), *places)

    def test_what_a_ring_is(self):
        for n, kinds, lot in ((5, (1,), (2,)), (5, (1, 2), (0, 4)), (6, (1,), (0, 2, 5)), (6, (2, 3), (1, 3, 4))):
            for a, b, d in choices_of(n, lot, 3):
                program = ring_program(n, kinds, lot, a, b, d)
                table = self.table(n, kinds, program)
                self.assertEqual(order_of(n, table), 3)
                self.assertEqual(self.table(n, kinds, ring_program(n, kinds, lot, b, d, a)), table)
                self.assertEqual(self.table(n, kinds, ring_program(n, kinds, lot, b, a, d)), power(n, table, 2))
                self.assertEqual(program_signs(n, program), ((0, 0),) * (n + 1))
                self.assertLessEqual(length(program), 5000)
                for standing in standings(n)[::5]:
                    self.assertEqual(run(n, program, standing), led_by(n, table, standing))


class PairProgramTest(RingsTest):
    def check(self, n, kinds, lot, a, b, c, d):
        program = check_call(self, pair_program, n=n, kinds=kinds, lot=lot, a=a, b=b, c=c, d=d)
        table = self.table(n, kinds, program)
        exchanged = {tuple(sorted(lot + (a, b))): (c, d), tuple(sorted(lot + (a, c))): (b, d)}
        for keys, entry, stays in zip(all_lots(n), table, still(n)):
            if len(keys) <= len(lot) + 2:
                told = list(stays)
                if keys in exchanged:
                    one, other = exchanged[keys]
                    told[one], told[other] = other, one
                self.assertEqual(entry, tuple(told), (kinds, lot, a, b, c, d, keys))

    def check_unfit(self, n, kinds, lot, a, b, c, d):
        check_raise(self, pair_program, Unfit, {}, n=n, kinds=kinds, lot=lot, a=a, b=b, c=c, d=d)

    def test_the_examples(self):
        pair = table_of(5, pair_program(5, (1,), (), 0, 1, 2, 3))
        self.assertEqual(led(5, pair, (0, 0, 7, 8, 9)), (0, 0, 8, 7, 9))
        self.assertEqual(led(5, pair, (0, 7, 0, 8, 9)), (0, 8, 0, 7, 9))
        self.assertEqual(led(5, pair, (7, 0, 0, 8, 9)), (7, 0, 0, 8, 9))
        self.assertEqual(led(5, pair, (0, 7, 8, 9, 6)), (0, 7, 8, 9, 6))

    def test_five_places(self):
        for j in (1, 2):
            for lot in all_lots(5):
                if j - 1 <= len(lot) <= 1:
                    for a, b, c, d in choices_of(5, lot, 4):
                        self.check(5, (j,), lot, a, b, c, d)

    def test_six_places(self):
        for j in (1, 2, 3):
            for lot in all_lots(6):
                if j - 1 <= len(lot) <= 2:
                    for a, b, c, d in choices_of(6, lot, 4)[::7]:
                        self.check(6, (j,), lot, a, b, c, d)

    def test_all_kinds(self):
        chance = random.Random(91)
        for n in (5, 6):
            for kinds in all_kinds(n):
                for lot in all_lots(n):
                    if len(lot) <= n - 4 and chance.random() < 0.3:
                        a, b, c, d = chance.choice(choices_of(n, lot, 4)[:12])
                        if least(kinds) is None or len(lot) < least(kinds) - 1:
                            self.check_unfit(n, kinds, lot, a, b, c, d)
                        else:
                            self.check(n, kinds, lot, a, b, c, d)

    def test_unfit_just_where_told(self):
        for n, lots in ((5, all_lots(5)[::2]), (6, all_lots(6)[::9])):
            for kinds in all_kinds(n):
                j = least(kinds)
                for lot in lots:
                    for a, b, c, d in product(range(n), repeat=4):
                        if (a + 2 * b + 3 * c + 4 * d + len(kinds) + len(lot)) % 7:
                            continue
                        right = j is not None and j - 1 <= len(lot) <= n - 4 and len({a, b, c, d, *lot}) == len(lot) + 4
                        error = raised(pair_program, n, kinds, lot, a, b, c, d)
                        self.assertIs(type(error), type(None) if right else Unfit, (n, kinds, lot, a, b, c, d))

    def test_too_few_and_too_many_places(self):
        self.check_unfit(5, (0,), (), 0, 1, 2, 3)
        self.check_unfit(5, (2,), (), 0, 1, 2, 3)
        self.check_unfit(5, (0, 2, 3), (), 0, 1, 2, 3)
        self.check_unfit(5, (1,), (0, 1), 2, 3, 4, 4)
        self.check_unfit(5, (3,), (4,), 0, 1, 2, 3)
        self.check_unfit(6, (1,), (0, 1, 2), 3, 4, 5, 5)
        self.check_unfit(6, (3,), (4,), 0, 1, 2, 3)
        self.check_unfit(6, (4,), (4, 5), 0, 1, 2, 3)
        self.check(6, (0, 3), (4, 5), 0, 1, 2, 3)
        self.check(5, (2, 3), (4,), 0, 1, 2, 3)
        self.check(6, (2, 3), (4,), 5, 1, 2, 3)

    def test_places_alike_or_within_the_lot(self):
        for places in ((1, 1, 2, 3), (1, 2, 1, 3), (1, 2, 3, 1), (2, 1, 1, 3), (2, 1, 3, 1), (2, 3, 1, 1), (1, 1, 1, 1),
                       (0, 1, 2, 3), (1, 0, 2, 3), (1, 2, 0, 3), (1, 2, 3, 0)):
            self.check_unfit(5, (1,), (0,), *places)
            self.check_unfit(6, (1, 3), (0, 5), *places)

    def test_what_a_pair_is(self):
        for n, kinds, lot in ((5, (1,), ()), (5, (2,), (3,)), (6, (1,), (0, 5)), (6, (2, 4), (1,))):
            for a, b, c, d in choices_of(n, lot, 4)[::11]:
                program = pair_program(n, kinds, lot, a, b, c, d)
                table = self.table(n, kinds, program)
                self.assertEqual(program_signs(n, program), ((0, 0),) * (n + 1))
                self.assertLessEqual(length(program), 5000)
                for standing in standings(n)[::7]:
                    self.assertEqual(run(n, program, standing), led_by(n, table, standing))
