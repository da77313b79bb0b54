"""[G2] and [G3], and what [G4] says of them."""

import unittest

from keyriders.asking import asked, fewest_kinds, why_needed
from keyriders.barring import paper_holds
from keyriders.doing import table_of
from keyriders.errors import Barred, Unfit
from keyriders.lots import all_lots
from keyriders.programs import kinds_of
from keyriders.tables import both, deed_table, still, table_error, undone
from keyriders.writing import written
from tests.helper import check_call, check_raise, raised, some_tables
from tests.tabled import (
    behind_one_another, can_be_written, chance_of, core_by_words, deeds_table, exchange_table, goal_of, is_paper_by_words,
    lots_round, riders_round, some_places, sorts_of_tables, sums_of_kinds, with_entries,
)
from tests.test_deeds import all_deeds
from tests.test_signs import counted_signs, row_of, turned
from tests.test_sizes import all_kinds

ONE = deed_table(5, ((0, 1), 2, 3))
SOME = both(5, deed_table(5, ((0,), 1, 2)), deed_table(5, ((3,), 0, 4)))
D = deed_table(5, ((2, 3, 4), 0, 1))
E = deed_table(5, ((0, 3, 4), 1, 2))
RING = both(5, both(5, D, E), both(5, D, E))
MOVED = still(5)[:1] + ((-1, 0, 2, 3, 4), (1, -1, 2, 3, 4)) + still(5)[3:]


def all_of(n):
    """Return all kinds of n."""
    return tuple(range(n - 1))


def core_of(n, table):
    """Return the core with the exchange of places undone."""
    return core_by_words(n, (0,), table)


def asked_by_words(n, table):
    """Return what a table for which there is a program asks, by [G2]."""
    core = core_of(n, table)
    row = counted_signs(n, core)
    needed = [kinds for kinds in all_kinds(n) + [()] if 0 not in kinds and row_of(n, kinds) == row]
    assert len(needed) == 1
    exchange = () if table[0] == tuple(range(n)) else (0,)
    sizes = [len(lot) for lot, entry, stays in zip(all_lots(n), core, still(n)) if entry != stays]
    if not sizes:
        return (exchange + needed[0], None)
    m = min(sizes)
    stay = all(goal_of(n, entry) == lot for lot, entry in zip(all_lots(n), core) if len(lot) == m)
    return (exchange + needed[0], m if stay else m - 1)


class AskingTest(unittest.TestCase):
    def check(self, n, table):
        """Check all that is said of a table."""
        if can_be_written(n, all_of(n), table):
            self.check_asked(n, table)
        else:
            self.check_barred(n, table)

    def check_asked(self, n, table):
        needed, level = check_call(self, asked, n=n, table=table)
        self.assertEqual((needed, level), asked_by_words(n, table))
        fit = [kinds for kinds in all_kinds(n) if can_be_written(n, kinds, table)]
        for kinds in all_kinds(n):
            above = [kind for kind in kinds if kind > 0]
            told = set(needed) <= set(kinds) and (level is None or (above != [] and above[0] <= level))
            self.assertEqual(told, kinds in fit, (kinds, needed, level))
        least = min(len(kinds) for kinds in fit)
        self.assertEqual(check_call(self, fewest_kinds, n=n, table=table), min(kinds for kinds in fit if len(kinds) == least))
        for k in range(n - 1):
            self.check_why(n, table, k, needed)

    def check_why(self, n, table, k, needed):
        """Check why a kind is needed, or that it is not."""
        if k not in needed:
            check_raise(self, why_needed, Unfit, {}, n=n, table=table, k=k)
            return
        paper = check_call(self, why_needed, n=n, table=table, k=k)
        others = tuple([kind for kind in range(n - 1) if kind != k])
        self.assertIs(paper_holds(n, others, table, paper), True)
        self.assertTrue(is_paper_by_words(n, others, table, paper))

    def check_barred(self, n, table):
        for call in (asked, fewest_kinds):
            error = raised(call, n, table)
            self.assertIs(type(error), Barred)
            self.assertTrue(paper_holds(n, all_of(n), table, error.paper))
            self.assertTrue(is_paper_by_words(n, all_of(n), table, error.paper))
            check_raise(self, call, Barred, {"paper": error.paper}, n=n, table=table)
        for k in range(n - 1):
            error = raised(why_needed, n, table, k)
            self.assertIs(type(error), Barred)
            self.assertTrue(paper_holds(n, all_of(n), table, error.paper))
            check_raise(self, why_needed, Barred, {"paper": error.paper}, n=n, table=table, k=k)

    def test_the_examples(self):
        exchange = deed_table(5, ((), 0, 1))
        for table, told, fewest in (
            (ONE, ((2,), 2), (2,)), (still(5), ((), None), (0,)), (SOME, ((), 1), (1,)), (exchange, ((0,), None), (0,)),
            (both(5, exchange, ONE), ((0, 2), 2), (0, 2)), (RING, ((), 3), (1,)), (both(5, RING, D), ((3,), 3), (3,)),
            (both(5, ONE, SOME), ((2,), 1), (1, 2)),
        ):
            self.assertEqual(asked(5, table), told)
            self.assertEqual(fewest_kinds(5, table), fewest)
            self.check(5, table)
        self.assertTrue(paper_holds(5, (0, 1, 3), ONE, why_needed(5, ONE, 2)))
        self.assertTrue(paper_holds(5, (1, 2, 3), exchange, why_needed(5, exchange, 0)))
        self.check_why(5, ONE, 1, (2,))
        self.assertIsNone(table_error(5, MOVED))
        self.assertTrue(paper_holds(5, (0, 1, 2, 3), MOVED, ("moved", (0,))))
        self.assertTrue(paper_holds(5, (0, 1, 2, 3), MOVED, ("signs", ((1, 0),))))
        self.check_barred(5, MOVED)

    def test_each_deed(self):
        for deed in all_deeds(5) + all_deeds(6)[::23]:
            n = 5 if deed in all_deeds(5) else 6
            k = len(deed[0])
            self.assertEqual(asked(n, deed_table(n, deed)), ((k,), k if k > 0 else None))
            self.assertEqual(fewest_kinds(n, deed_table(n, deed)), (k,))

    def test_nothing(self):
        for n in (5, 6):
            self.assertEqual(asked(n, still(n)), ((), None))
            self.assertEqual(fewest_kinds(n, still(n)), (0,))
            self.check(n, still(n))

    def test_few_drawn_deeds(self):
        for n in (5, 6):
            for at, kinds in enumerate(all_kinds(n)):
                chance = chance_of(90, n, at)
                for many in (1, 2, 3, 4) if n == 5 else (chance.randint(2, 4),):
                    self.check(n, deeds_table(n, kinds, many, chance))

    def test_exchanges_alone(self):
        for n in (5, 6):
            chance = chance_of(91, n)
            for _ in range(6):
                table = exchange_table(n, some_places(n, chance))
                self.check(n, table)
                self.assertEqual(asked(n, table)[1], None)

    def test_rings_and_lots_led_round(self):
        for n in (5, 6):
            chance = chance_of(92, n)
            for size in range(1, n):
                lots = [lot for lot in all_lots(n) if len(lot) == size]
                for many in (2, 3, 4):
                    self.check(n, lots_round(n, chance.sample(lots, many), chance if many == 4 else None))
                if size < n - 1:
                    for lot in chance.sample(lots, 2):
                        free = [place for place in range(n) if place not in lot]
                        self.check(n, riders_round(n, lot, free[:2]))
                        self.check(n, riders_round(n, lot, free[:3]))
            three = lots_round(n, [lot for lot in all_lots(n) if len(lot) == n - 1][:3])
            self.assertEqual(asked(n, three), ((), n - 2))
            self.assertEqual(fewest_kinds(n, three), (1,))

    def test_levels(self):
        for n in (5, 6):
            for size in range(1, n - 2):
                lot = tuple(range(size))
                table = riders_round(n, lot, (size, size + 1, size + 2))
                self.assertEqual(asked(n, table), ((), size))
                lots = [lot for lot in all_lots(n) if len(lot) == size + 1]
                self.assertEqual(asked(n, lots_round(n, lots[:3])), ((), size))
                self.assertEqual(asked(n, both(n, lots_round(n, lots[:3]), table)), ((), size))
                self.assertEqual(asked(n, both(n, lots_round(n, lots[:3]), exchange_table(n, some_places(n, chance_of(93)))))[1], size)

    def test_sorts(self):
        for n in (5, 6):
            for at, kinds in enumerate(all_kinds(n)):
                for table in sorts_of_tables(n, kinds, chance_of(94, n, at))[at % 3::3 if n == 5 else 11]:
                    self.check(n, table)

    def test_undone_and_put_together(self):
        for n in (5, 6):
            for at, kinds in enumerate(all_kinds(n)):
                if n == 5 or at % 3 == 0:
                    chance = chance_of(95, n, at)
                    table, other = deeds_table(n, kinds, 3, chance), deeds_table(n, kinds, 2, chance)
                    self.assertEqual(asked(n, undone(n, table)), asked(n, table))
                    self.check(n, undone(n, table))
                    self.check(n, behind_one_another(n, [table, other, undone(n, table)]))

    def test_none(self):
        for n in (5, 6):
            for table in some_tables(n, 3, 96):
                self.check(n, table)
            self.check_barred(n, lots_round(n, [(0, 1), (0, 2)]))
            self.check_barred(n, riders_round(n, (0, 1), (2, 3)))
            self.check_barred(n, both(n, lots_round(n, [(1,), (2,), (3,)]), deed_table(n, ((0,), 1, 2))))

    def test_barred_ahead_of_unfit(self):
        for k in range(4):
            self.assertIs(type(raised(why_needed, 5, MOVED, k)), Barred)
            self.assertIs(type(raised(why_needed, 5, still(5), k)), Unfit)
        self.assertIs(type(raised(why_needed, 5, SOME, 1)), Unfit)

    def test_what_comes_an_odd_number_of_times(self):
        for n in (5, 6):
            for at, kinds in enumerate(all_kinds(n)):
                chance = chance_of(97, n, at)
                deeds = [deed for deed in all_deeds(n) if len(deed[0]) in kinds]
                chosen = chance.choices(deeds, k=5)
                table = behind_one_another(n, [deed_table(n, deed) for deed in chosen])
                odd = [k for k in kinds if len([deed for deed in chosen if len(deed[0]) == k]) % 2]
                needed, _ = asked(n, table)
                self.assertEqual(0 in odd, turned(table[0]) == 1)
                self.assertEqual([k for k in odd if k > 0], [k for k in needed if k > 0])

    def test_written_with_the_fewest(self):
        for n in (5, 6):
            for at, kinds in enumerate(all_kinds(n)):
                if n == 5 or at % 4 == 0:
                    table = deeds_table(n, kinds, 3, chance_of(98, n, at))
                    fewest = fewest_kinds(n, table)
                    program = written(n, fewest, table)
                    self.assertEqual(table_of(n, program), table)
                    self.assertLessEqual(set(kinds_of(program)), set(fewest))
                    for kinds_less in [tuple([k for k in fewest if k != left]) for left in fewest]:
                        if kinds_less:
                            self.assertIs(type(raised(written, n, kinds_less, table)), Barred)

    def test_the_core_has_no_exchange(self):
        table = with_entries(5, {(): (1, 0, 2, 3, 4)})
        core = core_of(5, table)
        self.assertEqual(core[0], (0, 1, 2, 3, 4))
        self.assertNotIn(counted_signs(5, core), sums_of_kinds(5, (1, 2, 3)))
        self.check_barred(5, table)
