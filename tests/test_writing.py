"""[E5], and what [E8] and [A2] say of programs that are written."""

import unittest

from keyriders.barring import paper_holds
from keyriders.doing import table_of
from keyriders.errors import Barred
from keyriders.lots import all_lots
from keyriders.programs import kinds_of, length, program_error
from keyriders.programtexts import program_text, read_program
from keyriders.runs import run
from keyriders.signs import kinds_in, program_signs, signs_of
from keyriders.tables import both, deed_table, still, undone
from keyriders.writing import written
from tests.helper import check_call, check_raise, led_by, raised, some_tables, within
from tests.tabled import (
    all_spots, behind_one_another, barring_spots, can_be_written, chance_of, core_by_words, dense_table, deeds_table,
    drawn_spots, exchange_table, goal_of, is_paper_by_words, lots_round, riders_round, some_places, sorts_of_tables,
    sums_of_kinds, with_entries,
)
from tests.test_deeds import all_deeds
from tests.test_programs import standings
from tests.test_signs import counted_signs
from tests.test_sizes import all_kinds

SOME = both(5, deed_table(5, ((0,), 1, 2)), deed_table(5, ((3,), 0, 4)))


class WritingTest(unittest.TestCase):
    def check_program(self, n, kinds, table, program):
        """Check that a program is one of kinds, and does a table."""
        self.assertIsNone(program_error(n, program))
        self.assertLessEqual(set(kinds_of(program)), set(kinds))
        self.assertEqual(table_of(n, program), table)

    def check(self, n, kinds, table):
        """Check what is returned or raised for a table, by [A2]; return the program, or None."""
        if can_be_written(n, kinds, table):
            program = written(n, kinds, table)
            self.check_program(n, kinds, table, program)
            return program
        error = raised(written, n, kinds, table)
        self.assertIs(type(error), Barred, (kinds, table))
        self.assertIs(paper_holds(n, kinds, table, error.paper), True)
        self.assertTrue(is_paper_by_words(n, kinds, table, error.paper))
        return None

    def check_done(self, n, kinds, table):
        """Check what is returned for a table that programs of kinds do."""
        program = self.check(n, kinds, table)
        self.assertIsNotNone(program, (kinds, table))
        return program


class SortsTest(WritingTest):
    def test_the_examples(self):
        for kinds, table in (((1,), SOME), ((0, 1, 3), SOME), ((1,), still(5))):
            self.check_done(5, kinds, table)

    def test_by_place_and_by_name_and_again(self):
        for n in (5, 6):
            for kinds in ((0,), (0, 1), (2,), (1, 3)):
                chance = chance_of(1, n, len(kinds))
                for many in (0, 2, 5):
                    table = deeds_table(n, kinds, many, chance)
                    program = check_call(self, written, n=n, kinds=kinds, table=table)
                    self.check_program(n, kinds, table, program)
                    written(n, (1,), still(n))
                    raised(written, n, (n - 2,), deed_table(n, ((0,), 1, 2)))
                    self.assertEqual(written(n, kinds, table), program)

    def test_a_paper_by_place_and_by_name_and_again(self):
        for n in (5, 6):
            for kinds, table in (((2,), deed_table(n, ((0,), 1, 2))), ((1,), deed_table(n, ((0, 1), 2, 3))),
                                 ((0,), deed_table(n, ((1, 2), 3, 4))), ((1, 2, 3), deed_table(n, ((), 0, 1)))):
                paper = raised(written, n, kinds, table).paper
                check_raise(self, written, Barred, {"paper": paper}, n=n, kinds=kinds, table=table)
                written(n, (1,), still(n))
                self.assertEqual(raised(written, n, kinds, table).paper, paper)

    def test_five_places(self):
        for at, kinds in enumerate(all_kinds(5)):
            for table in sorts_of_tables(5, kinds, chance_of(2, at)):
                self.check(5, kinds, table)

    def test_six_places(self):
        for at, kinds in enumerate(all_kinds(6)):
            for table in sorts_of_tables(6, kinds, chance_of(3, at))[at % 4::4]:
                self.check(6, kinds, table)

    def test_no_deed(self):
        for n in (5, 6):
            for kinds in all_kinds(n):
                self.check_done(n, kinds, still(n))

    def test_each_deed_alone(self):
        for deed in all_deeds(5):
            table = deed_table(5, deed)
            for kinds in all_kinds(5):
                if len(deed[0]) in kinds:
                    self.check_done(5, kinds, table)
                else:
                    self.assertIs(type(raised(written, 5, kinds, table)), Barred)
        for deed in all_deeds(6)[::17]:
            self.check_done(6, (len(deed[0]),), deed_table(6, deed))

    def test_few_deeds_of_the_kinds(self):
        for n, many in ((5, 4), (6, 1)):
            for at, kinds in enumerate(all_kinds(n)):
                chance = chance_of(4, n, at)
                for deeds in (1, 2, 3, 4) if n == 5 else (chance.randint(2, 4),):
                    for _ in range(many):
                        self.check_done(n, kinds, deeds_table(n, kinds, deeds, chance))

    def test_dense_tables_soon(self):
        for n in (5, 6):
            for at, kinds in enumerate(all_kinds(n)):
                if kinds != (0,) and (n == 5 or at % 3 == 0):
                    table = dense_table(n, kinds, chance_of(5, n, at))
                    with within(10):
                        program = written(n, kinds, table)
                    self.check_program(n, kinds, table, program)

    def test_tables_for_which_there_is_none(self):
        for n in (5, 6):
            for table in some_tables(n, 4, 100):
                for kinds in all_kinds(n)[::3]:
                    self.check(n, kinds, table)


class LittleTest(WritingTest):
    """Tables that do little, of each sort that the writer has to lead back."""

    def test_exchanges_of_places(self):
        for n in (5, 6):
            chance = chance_of(6, n)
            for kinds in all_kinds(n):
                table = exchange_table(n, some_places(n, chance))
                if 0 in kinds:
                    self.check_done(n, kinds, table)
                else:
                    self.assertIs(type(raised(written, n, kinds, table)), Barred)
        for kinds in ((0,), (0, 2)):
            for ways in ((1, 2, 3, 4, 0), (4, 3, 2, 1, 0), (1, 0, 3, 4, 2), (0, 1, 2, 4, 3)):
                self.check_done(5, kinds, exchange_table(5, ways))

    def test_riders_of_one_lot(self):
        for n in (5, 6):
            for at, lot in enumerate(all_lots(n)):
                free = [place for place in range(n) if place not in lot]
                if len(free) >= 3 and (n == 5 or at % 7 == 0):
                    for k in range(1, len(lot) + 1):
                        self.check_done(n, (k,), riders_round(n, lot, free[:3]))
                    for k in range(len(lot) + 1, n - 1):
                        self.assertEqual(raised(written, n, (k,), riders_round(n, lot, free[:3])).paper, ("moved", lot))
                if len(lot) in range(1, n - 1):
                    self.check(n, (len(lot),), riders_round(n, lot, free[:2]))
                    self.assertIs(type(raised(written, n, (n - 2,), riders_round(n, lot, free[:2]))), Barred)

    def test_riders_exchanged_at_two_lots(self):
        for n in (5, 6):
            chance = chance_of(7, n)
            for size in range(1, n - 1):
                lots = [lot for lot in all_lots(n) if len(lot) == size]
                for _ in range(4):
                    tables = []
                    for lot in chance.sample(lots, 2):
                        tables.append(riders_round(n, lot, chance.sample([x for x in range(n) if x not in lot], 2)))
                    for k in range(1, size + 1):
                        self.check_done(n, (k,), both(n, *tables))

    def test_lots_led_round(self):
        for n in (5, 6):
            chance = chance_of(8, n)
            for size in range(2, n):
                lots = [lot for lot in all_lots(n) if len(lot) == size]
                for many in (3, 5) if n == 5 else (3,):
                    table = lots_round(n, chance.sample(lots, many))
                    if counted_signs(n, table) == counted_signs(n, still(n)):
                        for k in range(1, min(size, n - 1)):
                            self.check_done(n, (k,), table)
                    self.check(n, (1, n - 2), table)

    def test_two_twos_of_lots(self):
        for n in (5, 6):
            chance = chance_of(9, n)
            for size in range(2, n):
                lots = chance.sample([lot for lot in all_lots(n) if len(lot) == size], 4)
                table = both(n, lots_round(n, lots[:2]), lots_round(n, lots[2:]))
                self.check_done(n, (1,), table)
                if size > 2:
                    self.check_done(n, (0, 2), table)

    def test_holes_led_round(self):
        for n in (5, 6):
            chance = chance_of(10, n)
            lots = [lot for lot in all_lots(n) if len(lot) == n - 1]
            for many in (3, 5):
                table = lots_round(n, chance.sample(lots, many))
                for kinds in all_kinds(n):
                    if kinds != (0,):
                        self.check_done(n, kinds, table)
                    else:
                        self.assertIs(type(raised(written, n, kinds, table)), Barred)

    def test_two_behind_one_another(self):
        for n in (5, 6):
            for at, kinds in enumerate(all_kinds(n)):
                chance = chance_of(11, n, at)
                ones = [table for table in sorts_of_tables(n, kinds, chance) if can_be_written(n, kinds, table)]
                for _ in range(3 if n == 5 else 1):
                    self.check_done(n, kinds, behind_one_another(n, [chance.choice(ones), chance.choice(ones)]))

    def test_undone(self):
        for n in (5, 6):
            for at, kinds in enumerate(all_kinds(n)):
                if n == 5 or at % 4 == 0:
                    table = deeds_table(n, kinds, 3, chance_of(12, n, at))
                    self.check_done(n, kinds, undone(n, table))


class HoldsTest(WritingTest):
    def test_never_both(self):
        for n, step in ((5, 1), (6, 6)):
            for at, kinds in enumerate(all_kinds(n)):
                chance = chance_of(13, n, at)
                for table in sorts_of_tables(n, kinds, chance)[at % 3::4 * step]:
                    core = core_by_words(n, kinds, table)
                    rows = [] if kinds == (0,) else sums_of_kinds(n, kinds)
                    barring = [] if kinds == (0,) else barring_spots(n, rows, counted_signs(n, core))
                    papers = [("moved", lot) for lot in all_lots(n)] + [("signs", drawn_spots(n, chance)) for _ in range(9)]
                    papers += [("signs", spots) for spots in chance.sample(barring, min(9, len(barring)))]
                    papers += [("signs", (spot,)) for spot in all_spots(n)]
                    held = [paper for paper in papers if paper_holds(n, kinds, table, paper)]
                    self.assertEqual(held, [paper for paper in papers if is_paper_by_words(n, kinds, table, paper)])
                    self.assertEqual(raised(written, n, kinds, table) is None, held == [])

    def test_with_the_kind_none_as_without_it(self):
        for n in (5, 6):
            for at, kinds in enumerate(all_kinds(n)):
                if kinds[0] == 0 and (n == 5 or at % 3 == 0):
                    chance = chance_of(14, n, at)
                    for table in sorts_of_tables(n, kinds, chance)[::3 if n == 5 else 6]:
                        core = core_by_words(n, kinds, table)
                        error = raised(written, n, kinds, table)
                        if kinds == (0,):
                            self.assertEqual(error is None, core == still(n))
                        else:
                            self.assertEqual(error is None, raised(written, n, kinds[1:], core) is None)
                            self.assertEqual(None if error is None else error.paper,
                                             getattr(raised(written, n, kinds[1:], core), "paper", None))

    def test_which_kinds_come_an_odd_number_of_times(self):
        for n in (5, 6):
            for at, kinds in enumerate(all_kinds(n)):
                if n == 5 or at % 5 == 0:
                    table = deeds_table(n, kinds, 5, chance_of(15, n, at))
                    program = written(n, kinds, table)
                    self.assertEqual(program_signs(n, program), signs_of(n, table))
                    self.assertLessEqual(set(kinds_in(n, program_signs(n, program))), set(kinds))

    def test_what_is_written_can_be_run_and_told_as_a_text(self):
        for n in (5, 6):
            for kinds in ((1,), (0, 2), (n - 2,), (0, 1, 2)):
                table = deeds_table(n, kinds, 4, chance_of(16, n, len(kinds)))
                program = written(n, kinds, table)
                self.assertEqual(read_program(n, program_text(program)), program)
                if length(program) <= 5000:
                    for standing in standings(n)[::7]:
                        self.assertEqual(run(n, program, standing), led_by(n, table, standing))

    def test_wrong_signs_and_lots_that_may_not_be_moved(self):
        one = deed_table(5, ((0, 1), 2, 3))
        for kinds in ((1,), (1, 3), (0, 1), (0, 1, 3)):
            self.assertEqual(raised(written, 5, kinds, one).paper[0], "signs")
        for kinds in ((3,), (0, 3)):
            self.assertEqual(raised(written, 5, kinds, one).paper, ("moved", (0, 1)))
        self.assertEqual(raised(written, 5, (1, 2, 3), exchange_table(5, (1, 0, 2, 3, 4))).paper, ("moved", ()))
        moved = with_entries(5, {(0,): (-1, 0, 2, 3, 4), (1,): (1, -1, 2, 3, 4)})
        for kinds in all_kinds(5):
            self.assertIs(type(raised(written, 5, kinds, moved)), Barred)
        self.assertNotEqual(goal_of(5, moved[1]), (0,))


if __name__ == "__main__":
    unittest.main()
