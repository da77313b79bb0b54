"""[D1] to [D4], and what [D6] says of signs."""

import random
import unittest
from itertools import combinations, permutations, product

from keyriders.doing import table_of
from keyriders.programs import backward, joined, length
from keyriders.signs import kind_signs, kinds_in, program_signs, signs_of
from keyriders.tables import both, deed_table, still, undone
from tests.helper import check_call, lots_by_size, nested, some_tables, within
from tests.test_deeds import all_deeds
from tests.test_programs import FAR, IDLE, MANY, RING, deeds_of, some_programs
from tests.test_tables import drawn

OFTEN = (("do", ((0,), 1, 2)), ("row", (("times", ("part", 0), MANY - 1), ("do", ((0, 1), 2, 3)))))


def noughts(n):
    """Return the row of noughts of n."""
    return ((0, 0),) * (n + 1)


def summed(n, *rows):
    """Return the sum of some rows of n."""
    return tuple([(sum(row[m][0] for row in rows) % 2, sum(row[m][1] for row in rows) % 2) for m in range(n + 1)])


def row_of(n, kinds):
    """Return the sum of the rows of some kinds."""
    return summed(n, noughts(n), *[kind_signs(n, k) for k in kinds])


def turned(ways):
    """Return the number, modulo 2, of the pairs that come to stand the other way about."""
    return sum(1 for one, other in combinations(ways, 2) if one > other) % 2


def counted_signs(n, table):
    """Return the row of a table, by counting pairs."""
    row = []
    entries = iter(table)
    for lots in lots_by_size(n):
        goals, t = [], 0
        for lot in lots:
            entry = next(entries)
            goals.append(tuple([place for place in range(n) if place not in entry]))
            t += turned([entry[place] for place in range(n) if place not in lot])
        row.append((turned(goals), t % 2))
    return tuple(row)


def choices(a, b):
    """Return C(a, b), counted by sums."""
    line = [1]
    for _ in range(a):
        line = [one + other for one, other in zip([0] + line, line + [0])]
    return line[b] if 0 <= b <= a else 0


class SignsOfTest(unittest.TestCase):
    def check(self, n, table):
        found = check_call(self, signs_of, n=n, table=table)
        self.assertEqual(found, counted_signs(n, table))
        self.assertEqual((found[0][0], found[n - 1][1], found[n]), (0, 0, (0, 0)))
        self.assertEqual(found[0][1], turned(table[0]))
        return found

    def test_the_examples(self):
        self.assertEqual(signs_of(3, deed_table(3, ((0,), 1, 2))), ((0, 0), (0, 1), (1, 0), (0, 0)))
        self.assertEqual(signs_of(3, still(3)), ((0, 0), (0, 0), (0, 0), (0, 0)))
        two = both(5, deed_table(5, ((0,), 1, 2)), deed_table(5, ((3,), 0, 4)))
        self.assertEqual(signs_of(5, two), signs_of(5, still(5)))

    def test_every_deed(self):
        for n in (3, 4, 5, 6):
            for deed in all_deeds(n):
                self.assertEqual(self.check(n, deed_table(n, deed)), kind_signs(n, len(deed[0])))

    def test_what_a_deed_of_each_kind_exchanges(self):
        for n in (3, 4, 5, 6):
            for lot, a, b in all_deeds(n):
                k = len(lot)
                lots = [lot for lots in lots_by_size(n) for lot in lots]
                led, turned_alone = [0] * (n + 1), [0] * (n + 1)
                for keys, entry in zip(lots, deed_table(n, (lot, a, b))):
                    aim = tuple([place for place in range(n) if place not in entry])
                    led[len(keys)] += aim != keys
                    turned_alone[len(keys)] += aim == keys and entry != still(n)[lots.index(keys)]
                self.assertEqual(led, [2 * choices(n - 2 - k, m - 1 - k) for m in range(n + 1)])
                self.assertEqual(turned_alone, [choices(n - 2 - k, m - k) for m in range(n + 1)])

    def test_rows_of_deeds(self):
        chance = random.Random(80)
        for n in (3, 4, 5, 6):
            deeds = all_deeds(n)
            for many in (2, 3, 5, 12):
                row = chance.choices(deeds, k=many)
                table = still(n)
                for deed in row:
                    table = both(n, table, deed_table(n, deed))
                self.assertEqual(self.check(n, table), row_of(n, [len(deed[0]) for deed in row]))

    def test_drawn_tables(self):
        for n in (3, 4, 5, 6):
            for table in drawn(n) + some_tables(n, 10, 81):
                self.check(n, table)

    def test_two_riders_exchanged(self):
        for n in (3, 4, 5, 6):
            lots = [lot for lots in lots_by_size(n) for lot in lots]
            for number, lot in enumerate(lots):
                free = [place for place in range(n) if place not in lot]
                for one, other in combinations(free, 2):
                    entry = list(still(n)[number])
                    entry[one], entry[other] = other, one
                    table = still(n)[:number] + (tuple(entry),) + still(n)[number + 1:]
                    self.assertEqual(self.check(n, table), one_sign(n, len(lot), 1))

    def test_two_lots_exchanged(self):
        for n in (3, 4, 5, 6):
            first = 0
            for size, lots in enumerate(lots_by_size(n)):
                for one, other in combinations(range(first, first + len(lots)), 2):
                    table = list(still(n))
                    for number, aim in ((one, other), (other, one)):
                        free = [place for place in range(n) if place not in lots[aim - first]]
                        table[number] = tuple([-1 if x in lots[number - first] else free.pop(0) for x in range(n)])
                    self.assertEqual(self.check(n, tuple(table)), one_sign(n, size, 0))
                first += len(lots)

    def test_of_two_tables_and_of_one_undone(self):
        for n in (3, 4, 5, 6):
            tables = drawn(n)
            for one, other in zip(tables, tables[1:]):
                self.assertEqual(signs_of(n, both(n, one, other)), summed(n, signs_of(n, one), signs_of(n, other)))
                self.assertEqual(signs_of(n, undone(n, one)), signs_of(n, one))

    def test_exchanges_where_no_place_holds_a_key(self):
        for n in (3, 4, 5):
            for ways in permutations(range(n)):
                table = (ways,) + still(n)[1:]
                self.assertEqual(signs_of(n, table), ((0, turned(ways)),) + noughts(n)[1:])


def one_sign(n, size, which):
    """Return the row with one 1, at a size, as the s or the t."""
    return tuple([(int(m == size and which == 0), int(m == size and which == 1)) for m in range(n + 1)])


class KindSignsTest(unittest.TestCase):
    def test_the_examples(self):
        self.assertEqual(kind_signs(5, 1), ((0, 0), (0, 1), (1, 0), (0, 1), (1, 0), (0, 0)))
        self.assertEqual(kind_signs(5, 2), ((0, 0), (0, 0), (0, 1), (1, 1), (1, 0), (0, 0)))
        self.assertEqual(kind_signs(5, 3), ((0, 0), (0, 0), (0, 0), (0, 1), (1, 0), (0, 0)))
        self.assertEqual(kind_signs(5, 0), ((0, 1), (1, 1), (1, 1), (1, 1), (1, 0), (0, 0)))
        self.assertEqual(kind_signs(3, 0), ((0, 1), (1, 1), (1, 0), (0, 0)))
        self.assertEqual(kind_signs(24, 10)[10:14], ((0, 1), (1, 0), (0, 0), (0, 0)))

    def test_every_kind(self):
        for n in range(3, 25):
            for k in range(n - 1):
                told = tuple([(choices(n - 2 - k, m - 1 - k) % 2, choices(n - 2 - k, m - k) % 2) for m in range(n + 1)])
                self.assertEqual(check_call(self, kind_signs, n=n, k=k), told)
                self.assertEqual(told[:k + 1], ((0, 0),) * k + ((0, 1),))


class ProgramSignsTest(unittest.TestCase):
    def check(self, n, program, kinds):
        """Check the row of a program that does deeds of just these kinds an odd number of times."""
        self.assertEqual(check_call(self, program_signs, n=n, program=program), row_of(n, kinds))

    def test_the_examples(self):
        self.assertEqual(program_signs(5, OFTEN), ((0, 0), (0, 1), (1, 1), (1, 0), (0, 0), (0, 0)))
        self.assertEqual(program_signs(5, (("times", ("do", ((), 0, 1)), 10 ** 30),)), program_signs(5, (("row", ()),)))

    def test_one_deed_of_each_kind(self):
        for n in range(3, 25):
            for k in range(n - 1):
                do = ("do", (tuple(range(n - k, n)), 0, 1))
                for term, odd in ((do, True), (("back", do), True), (("times", do, MANY), False), (("times", do, MANY - 1), True),
                                  (("times", do, 0), False), (("times", do, 1), True), (("row", (do, do)), False),
                                  (("row", (do, ("back", do), do)), True), (("row", ()), False),
                                  (("times", ("times", do, 3), 5), True), (("times", ("times", do, 3), 4), False),
                                  (("times", ("back", ("times", do, 4)), 3), False)):
                    self.check(n, (term,), (k,) if odd else ())
                    self.check(n, (term, ("part", 0)), (k,) if odd else ())
                    self.check(n, (term, ("row", ())), ())

    def test_parts(self):
        one, two, three = [("do", (tuple(range(k)), 4, 5)) for k in (1, 2, 3)]
        parts = (one, two, three, ("row", (("part", 0), ("part", 1))))
        for term, kinds in (
            (("part", 3), (1, 2)), (("row", (("part", 3), ("part", 1))), (1,)), (("row", (("part", 3), ("part", 3))), ()),
            (("back", ("row", (("part", 3), ("part", 2)))), (1, 2, 3)), (("times", ("part", 3), 7), (1, 2)),
            (("times", ("part", 3), MANY), ()), (("row", (("part", 0),) * 400), ()), (("row", (("part", 0),) * 399), (1,)),
            (("row", (("part", 0), ("times", ("part", 3), 3), ("back", ("part", 2)), ("part", 2))), (2,)),
        ):
            for n in (6, 9, 24):
                self.check(n, parts + (term,), kinds)

    def test_drawn_programs(self):
        for n in (3, 4, 5, 6):
            for program in some_programs(n, 40, 82):
                found = check_call(self, program_signs, n=n, program=program)
                self.assertEqual(found, signs_of(n, table_of(n, program)))
                kinds = [len(deed[0]) for deed in deeds_of(program)]
                odd = tuple([k for k in range(n - 1) if kinds.count(k) % 2])
                self.assertEqual(found, row_of(n, odd))
                self.assertEqual(kinds_in(n, found), odd)
                self.assertEqual(program_signs(n, backward(program)), found)

    def test_programs_together(self):
        for one, other in ((RING, IDLE), (IDLE, RING), (OFTEN, RING), (OFTEN, OFTEN)):
            self.assertEqual(program_signs(5, joined(one, other)), summed(5, program_signs(5, one), program_signs(5, other)))

    def test_long_programs_are_not_done(self):
        with within(20):
            self.check(24, FAR, ())
            odd = (RING[0],) + tuple([("times", ("part", i), MANY - 1) for i in range(399)])
            self.check(24, odd, (1,))
            self.check(24, (RING[0],) + tuple([("row", (("part", i),) * 3) for i in range(399)]), (1,))
            self.check(24, (RING[0],) + tuple([("row", (("part", i),) * 2) for i in range(399)]), ())
            self.check(24, (nested(RING[0], 11, lambda term: ("times", term, MANY - 1)),), (1,))
            self.check(24, (nested(RING[0], 11, lambda term: ("back", term)),), (1,))
        self.assertRaises(ValueError, length, odd)


class KindsInTest(unittest.TestCase):
    def check(self, n, row, kinds):
        self.assertEqual(check_call(self, kinds_in, n=n, row=row), kinds)

    def test_the_examples(self):
        self.check(5, program_signs(5, OFTEN), (1, 2))
        self.check(5, ((0, 0),) * 6, ())
        self.check(5, ((0, 0), (0, 0), (1, 0), (0, 0), (0, 0), (0, 0)), None)
        self.check(3, ((0, 1), (1, 0), (0, 0), (0, 0)), (0, 1))
        self.check(3, ((0, 1), (1, 0), (0, 0), (0, 1)), None)

    def test_all_lots_of_kinds(self):
        for n in range(3, 9):
            rows = {}
            for kinds in [kinds for size in range(n) for kinds in combinations(range(n - 1), size)]:
                row = row_of(n, kinds)
                self.check(n, row, kinds)
                self.assertEqual(rows.setdefault(row, kinds), kinds)
            self.assertEqual(len(rows), 2 ** (n - 1))

    def test_drawn_lots_of_kinds(self):
        chance = random.Random(83)
        for n in range(9, 25):
            for _ in range(30):
                kinds = tuple([k for k in range(n - 1) if chance.random() < 0.5])
                self.check(n, row_of(n, kinds), kinds)
            self.check(n, row_of(n, range(n - 1)), tuple(range(n - 1)))

    def test_just_the_sums_of_all_rows(self):
        for n in (3, 4, 5):
            sums = {row_of(n, kinds): kinds for size in range(n) for kinds in combinations(range(n - 1), size)}
            for flat in product((0, 1), repeat=2 * n + 2):
                row = tuple(zip(flat[::2], flat[1::2]))
                self.assertEqual(kinds_in(n, row), sums.get(row), row)

    def test_rows_with_one_sign_changed(self):
        chance = random.Random(84)
        for n in range(3, 25):
            kinds = tuple([k for k in range(n - 1) if chance.random() < 0.5])
            row = row_of(n, kinds)
            for m, which in product(range(n + 1), (0, 1)):
                value = summed(n, row, one_sign(n, m, which))
                found = kinds_in(n, value)
                self.assertTrue(found is None or row_of(n, found) == value)
            for m, which in ((0, 0), (n - 1, 1), (n, 0), (n, 1)):
                self.check(n, summed(n, row, one_sign(n, m, which)), None)

    def test_rows_of_noughts(self):
        for n in range(3, 25):
            self.check(n, noughts(n), ())

    def test_it_is_the_same_whatever_program_does_a_table(self):
        for n in (3, 4):
            kinds = {}
            for program in some_programs(n, 150, 85):
                found = kinds_in(n, program_signs(n, program))
                self.assertEqual(kinds.setdefault(table_of(n, program), found), found)
