"""[C5], and what [C6] says of programs."""

import random
import unittest

from keyriders.doing import led, table_of
from keyriders.programs import backward, joined, program_error
from keyriders.runs import run
from keyriders.tables import both, deed_table, order_of, power, still, table_error, undone
from tests.helper import check_call, led_by, nested, some_tables, table_by, within
from tests.test_deeds import all_deeds
from tests.test_programs import FAR, IDLE, MANY, RING, some_programs, standings, through
from tests.test_tables import SOME

DEEDS = (("do", ((0,), 1, 2)), ("do", ((1,), 0, 2)))
EMPTY = ("row", ())


def long_row(n, seed):
    """Return a row of deeds of n, of all kinds, and of terms of other words."""
    chance = random.Random(seed)
    terms = [("do", deed) for deed in chance.choices(all_deeds(n), k=7)]
    return ("row", tuple(terms + [("back", ("row", tuple(terms[:3]))), ("times", ("row", tuple(terms[2:6])), 3)]))


class TableOfTest(unittest.TestCase):
    def check(self, n, program):
        """Check the table of a program against its deeds, done lot by lot."""
        self.assertIsNone(program_error(n, program))
        found = check_call(self, table_of, n=n, program=program)
        self.assertEqual(found, table_by(n, lambda standing: through(program, standing)))
        self.assertIsNone(table_error(n, found))
        return found

    def check_often(self, n, term, k):
        """Check a term done k times by the same deeds, done only as often as tells."""
        table = self.check(n, (term,))
        often = (term, ("times", ("part", 0), k))
        self.assertIsNone(program_error(n, often))
        found = check_call(self, table_of, n=n, program=often)
        few = ("row", (term,) * (k % order_of(n, table)))
        self.assertEqual(found, table_by(n, lambda standing: through((few,), standing)))
        self.assertEqual(table_of(n, (("times", term, k),)), found)
        self.assertEqual(table_of(n, (term, ("times", ("back", ("part", 0)), k))), undone(n, found))
        self.assertEqual(table_of(n, (term, ("back", ("times", ("part", 0), k)))), undone(n, found))

    def test_the_examples(self):
        self.assertEqual(table_of(3, (("row", DEEDS),)), SOME)
        self.assertEqual(table_of(3, (("row", DEEDS), ("back", ("part", 0)))), undone(3, SOME))
        self.assertEqual(table_of(3, (("row", DEEDS), ("times", ("part", 0), MANY))), power(3, SOME, 4))
        self.assertEqual(table_of(3, DEEDS + (EMPTY,)), still(3))

    def test_each_deed(self):
        for n in (3, 4, 5, 6):
            for deed in all_deeds(n):
                table = deed_table(n, deed)
                self.assertEqual(table_of(n, (("do", deed),)), table)
                self.assertEqual(table_of(n, (("back", ("do", deed)),)), table)
                self.assertEqual(table_of(n, (("times", ("do", deed), MANY),)), still(n))
                self.assertEqual(table_of(n, (("do", deed), ("times", ("part", 0), MANY - 1))), table)

    def test_some(self):
        for program in (RING, IDLE, RING[:1], RING[:2], (EMPTY,), joined(RING, IDLE), backward(joined(IDLE, RING)),
                        RING + (("times", ("part", 2), 0),), RING + (("row", (("part", 2), EMPTY, ("back", ("part", 0)))),)):
            for n in (5, 6):
                self.check(n, program)

    def test_many_programs(self):
        for n, many in ((3, 60), (4, 60), (5, 30), (6, 15)):
            for program in some_programs(n, many, 60 + n):
                self.check(n, program)

    def test_parts_used_often_undone_and_done_no_times(self):
        for n in (3, 5, 6):
            row = long_row(n, 61)
            for term in (("row", (("part", 0),) * 5), ("back", ("row", (("part", 0), ("back", ("part", 0)), ("part", 0)))),
                         ("times", ("part", 0), 0), ("back", ("times", ("part", 0), 0)), ("times", EMPTY, 7), EMPTY,
                         ("row", (("times", ("part", 0), 0), ("part", 0), ("times", ("back", ("part", 0)), 0)))):
                self.check(n, (row, term))
                self.check(n, (row, term, ("row", (("part", 1), ("part", 0), ("part", 1)))))
            self.assertEqual(table_of(n, (row, ("row", (("part", 0), ("back", ("part", 0)))))), still(n))
            self.assertEqual(table_of(n, (row, ("times", ("times", ("part", 0), 0), MANY))), still(n))
            self.assertEqual(table_of(n, (("times", EMPTY, MANY),)), still(n))

    def test_terms_done_often(self):
        for n, seeds in ((3, range(8)), (4, range(6)), (5, range(3)), (6, range(2))):
            for seed in seeds:
                row = ("row", tuple([("do", deed) for deed in random.Random(seed).sample(all_deeds(n), 3)]))
                for k in (2, 7, 10 ** 15 + 1, MANY - 1, MANY):
                    self.check_often(n, row, k)

    def test_terms_done_often_within_one_another(self):
        for n in (3, 5, 6):
            row = long_row(n, 62)
            table = self.check(n, (row,))
            for deep in range(1, 11):
                found = table_of(n, (row, nested(("part", 0), deep, lambda term: ("times", term, MANY))))
                often = 1
                for _ in range(deep):
                    often = often * MANY % order_of(n, table)
                self.assertEqual(found, power(n, table, often))
            mixed = ("times", ("row", (("times", ("part", 0), MANY - 1), ("back", ("times", ("part", 0), MANY // 3)))), MANY)
            self.assertEqual(table_of(n, (row, mixed)), power(n, table, (MANY - 1 - MANY // 3) * (MANY % order_of(n, table))))
            self.assertEqual(table_of(n, FAR), still(n))

    def test_four_hundred_terms_each_of_which_uses_the_one_ahead(self):
        with within(30):
            for n in (3, 5, 6):
                row = long_row(n, 63)
                table = table_of(n, (row,))
                order = order_of(n, table)
                for term, often in (
                    (lambda i: ("part", i), 1), (lambda i: ("back", ("part", i)), -1),
                    (lambda i: ("row", (("part", i), ("part", 0))), 400),
                    (lambda i: ("row", (("part", i), ("part", i))), pow(2, 399, order)),
                    (lambda i: ("times", ("part", i), MANY), pow(MANY, 399, order)),
                    (lambda i: ("row", (("back", ("part", i)), ("times", ("part", i), 3))), pow(2, 399, order)),
                ):
                    program = (row,) + tuple([term(i) for i in range(399)])
                    self.assertIsNone(program_error(n, program))
                    self.assertEqual(table_of(n, program), power(n, table, often))

    def test_parts_doubled_sixty_times(self):
        with within(10):
            for n in (3, 4, 5, 6):
                row = long_row(n, 64)
                program = (row,) + tuple([("row", (("part", i), ("part", i))) for i in range(60)])
                self.assertEqual(check_call(self, table_of, n=n, program=program), power(n, table_of(n, (row,)), 2 ** 60))

    def test_parts_that_are_not_used_and_rows_of_four_hundred(self):
        with within(10):
            full = ("row", (DEEDS[0], DEEDS[1]) * 200)
            for n in (3, 6):
                part = table_of(n, (("row", DEEDS),))
                self.assertEqual(table_of(n, (full,)), power(n, part, 200))
                self.assertEqual(table_of(n, (full, ("row", (("part", 0),) * 399))), power(n, part, 200 * 399))
                self.assertEqual(table_of(n, FAR + (full, DEEDS[0])), deed_table(n, DEEDS[0][1]))

    def test_two_programs_do_the_same_exactly_if_their_tables_are_one(self):
        for n in (3, 4):
            programs = some_programs(n, 40, 65)
            does = [[through(program, standing) for standing in standings(n)] for program in programs]
            tables = [table_of(n, program) for program in programs]
            same = 0
            for one in range(len(programs)):
                for other in range(one):
                    self.assertEqual(does[one] == does[other], tables[one] == tables[other])
                    same += does[one] == does[other]
            self.assertGreater(same, 0)

    def test_of_two_programs_and_of_one_undone(self):
        for n in (3, 4, 5, 6):
            programs = some_programs(n, 8, 66)
            for one, other in zip(programs, programs[1:]):
                self.assertEqual(table_of(n, joined(one, other)), both(n, table_of(n, one), table_of(n, other)))
                self.assertEqual(table_of(n, backward(one)), undone(n, table_of(n, one)))


class LedTest(unittest.TestCase):
    def test_the_examples(self):
        self.assertEqual([led(3, SOME, standing) for standing in ((0, 0, 7), (0, 7, 0), (0, 7, 8), (0, 0, 0))],
                         [(0, 7, 0), (7, 0, 0), (0, 8, 7), (0, 0, 0)])
        self.assertEqual(led(5, deed_table(5, ((), 0, 4)), (5, 7, 0, 9, 6)), (6, 7, 0, 9, 5))

    def test_each_lot_of_keys(self):
        chance = random.Random(67)
        for n in (3, 4, 5, 6):
            for table in some_tables(n, 5, 68):
                for standing in standings(n):
                    self.assertEqual(check_call(self, led, n=n, table=table, standing=standing), led_by(n, table, standing))
                    riders = iter(chance.sample(range(1, 100), n))
                    other = tuple([0 if item == 0 else next(riders) for item in standing])
                    self.assertEqual(led(n, table, other), led_by(n, table, other))
                self.assertEqual(led(n, table, (0,) * n), (0,) * n)
                full = tuple(range(99, 99 - n, -1))
                self.assertEqual([led(n, table, full).index(item) for item in full], list(table[0]))

    def test_against_run(self):
        for n in (3, 4, 5, 6):
            for program in some_programs(n, 20, 69):
                table = table_of(n, program)
                for standing in standings(n):
                    self.assertEqual(led(n, table, standing), run(n, program, standing))

    def test_one_table_behind_another(self):
        for n in (3, 5, 6):
            one, other = some_tables(n, 2, 70)
            for standing in standings(n):
                self.assertEqual(led(n, both(n, one, other), standing), led(n, other, led(n, one, standing)))
                self.assertEqual(led(n, undone(n, one), led(n, one, standing)), standing)
                self.assertEqual(led(n, still(n), standing), standing)
