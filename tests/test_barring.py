"""[E6], and what [E8] says of papers."""

import unittest

from keyriders.barring import paper_holds
from keyriders.doing import table_of
from keyriders.errors import Barred
from keyriders.lots import all_lots
from keyriders.signs import kind_signs, signs_of
from keyriders.tables import both, deed_table, still
from keyriders.writing import written
from tests.helper import VALUES, check_call, raised, some_tables
from tests.tabled import (
    all_spots, barring_spots, chance_of, core_by_words, deeds_table, drawn_spots, exchange_table, goal_of,
    is_paper_by_words, least_above, lots_round, moved_by_words, odd_at, riders_round, some_places, sorts_of_tables,
    sums_of_kinds, twisted,
)
from tests.test_sizes import all_kinds

ONE = deed_table(5, ((0, 1), 2, 3))
SOME = both(5, deed_table(5, ((0,), 1, 2)), deed_table(5, ((3,), 0, 4)))


class PaperHoldsTest(unittest.TestCase):
    def check(self, n, kinds, table, value, told):
        found = check_call(self, paper_holds, n=n, kinds=kinds, table=table, value=value)
        self.assertIs(found, told, (n, kinds, value))

    def check_by_words(self, n, kinds, table, value):
        self.assertIs(paper_holds(n, kinds, table, value), is_paper_by_words(n, kinds, table, value), (n, kinds, value))

    def test_the_examples(self):
        for kinds, table in (((1,), SOME), ((0, 1, 3), SOME), ((1,), still(5))):
            self.assertEqual(table_of(5, written(5, kinds, table)), table)
        self.check(5, (1,), ONE, ("signs", ((2, 1),)), True)
        self.check(5, (1, 2), ONE, ("signs", ((2, 1),)), False)
        self.check(5, (3,), ONE, ("moved", (0, 1)), True)
        self.check(5, (3,), ONE, ("moved", (0, 1, 2)), True)
        for value in (("signs", ((2, 1), (3, 0))), ("signs", ((3, 0), (2, 1))), ("signs", ((1, 1), (2, 1))),
                      ("signs", [(2, 1)]), ("moved", (0, 1)), None):
            self.check(5, (1,), ONE, value, False)
        self.check(5, (1,), ONE, ("signs", ((3, 0),)), True)
        self.check(5, (1,), ONE, ("signs", ((2, 0), (2, 1), (3, 0), (4, 0))), True)
        self.check(5, (0,), deed_table(5, ((), 0, 1)), ("moved", (2,)), False)
        self.check(5, (0, 2), deed_table(5, ((), 0, 1)), ("moved", (2,)), False)

    def test_moved_for_each_lot(self):
        for n in (5, 6):
            for at, kinds in enumerate(all_kinds(n)):
                chance = chance_of(20, n, at)
                for table in sorts_of_tables(n, kinds, chance)[at % 3::4 if n == 5 else 9] + some_tables(n, 1, at):
                    told = moved_by_words(n, kinds, core_by_words(n, kinds, table))
                    held = [lot for lot in all_lots(n) if paper_holds(n, kinds, table, ("moved", lot))]
                    self.assertEqual(held, told)

    def test_moved_at_the_least_lots(self):
        for n in (5, 6):
            for j in range(1, n - 1):
                lots = [lot for lot in all_lots(n) if len(lot) == j]
                ridden = riders_round(n, lots[0], [place for place in range(n) if place not in lots[0]])
                exchanged = lots_round(n, lots[1:3])
                for kinds in ((j,), (0, j)):
                    self.check(n, kinds, ridden, ("moved", lots[0]), False)
                    self.check(n, kinds, exchanged, ("moved", lots[1]), True)
                    self.check(n, kinds, exchanged, ("moved", lots[2]), True)
                    self.check(n, kinds, exchanged, ("moved", lots[3]), False)
                if j < n - 2:
                    self.check(n, (j + 1,), ridden, ("moved", lots[0]), True)
                    self.check(n, (0, j + 1), ridden, ("moved", lots[1]), False)
                if j > 1:
                    self.check(n, (j - 1,), exchanged, ("moved", lots[1]), False)
                self.check(n, (0,), ridden, ("moved", lots[0]), True)
                self.check(n, (0,), exchanged, ("moved", lots[2]), True)

    def test_moved_where_no_place_holds_a_key(self):
        for n in (5, 6):
            for ways in (some_places(n, chance_of(21, n)), (1, 0) + tuple(range(2, n))):
                table = exchange_table(n, ways)
                for kinds in all_kinds(n):
                    self.check(n, kinds, table, ("moved", ()), 0 not in kinds)
                    if kinds[0] == 0:
                        for lot in all_lots(n)[::5]:
                            self.check(n, kinds, table, ("moved", lot), False)

    def test_signs_that_are_summed(self):
        for n in (5, 6):
            for at, kinds in enumerate(all_kinds(n)):
                chance = chance_of(22, n, at)
                table = some_tables(n, 1, at)[0] if at % 2 else deeds_table(n, range(n - 1), 5, chance)
                row = signs_of(n, core_by_words(n, kinds, table))
                for _ in range(25):
                    spots = drawn_spots(n, chance)
                    even = all(odd_at(kind_signs(n, k), spots) == 0 for k in kinds if k > 0)
                    told = least_above(kinds) is not None and even and odd_at(row, spots) == 1
                    self.assertIs(paper_holds(n, kinds, table, ("signs", spots)), told)

    def test_all_signs_of_five_places(self):
        chance = chance_of(23)
        for kinds in ((1,), (0, 2), (1, 2, 3), (0,), (0, 1, 3)):
            table = both(5, deeds_table(5, range(4), 4, chance), lots_round(5, [(0, 1), (2, 3)]))
            row = signs_of(5, core_by_words(5, kinds, table))
            barring = [] if kinds == (0,) else barring_spots(5, sums_of_kinds(5, kinds), row)
            self.assertEqual(bool(barring), kinds != (0,))
            for spots in barring[::11]:
                self.check(5, kinds, table, ("signs", spots), True)
            for _ in range(100):
                spots = drawn_spots(5, chance)
                self.check_by_words(5, kinds, table, ("signs", spots))
                self.assertIs(paper_holds(5, kinds, table, ("signs", spots)), spots in barring)

    def test_one_spot_at_a_time(self):
        for n in (5, 6):
            for kinds in all_kinds(n)[::2]:
                for table in (deed_table(n, ((0,), 1, 2)), lots_round(n, all_lots(n)[1:3]), some_tables(n, 1, 24)[0]):
                    for spot in all_spots(n):
                        self.check_by_words(n, kinds, table, ("signs", (spot,)))

    def test_values_of_all_kinds(self):
        for n, kinds, table in ((5, (1,), ONE), (5, (0,), ONE), (6, (2, 3), deed_table(6, ((0,), 1, 2)))):
            for value in VALUES:
                self.check(n, kinds, table, value, False)
                self.check(n, kinds, table, ("moved", value), is_paper_by_words(n, kinds, table, ("moved", value)))
                self.check(n, kinds, table, ("signs", value), False)
                self.check(n, kinds, table, (value, (0, 1)), False)
                self.check(n, kinds, table, (value, ((2, 1),)), False)
                spots = ((2, value),)
                self.check(n, kinds, table, ("signs", spots), is_paper_by_words(n, kinds, table, ("signs", spots)))

    def test_papers_with_parts_changed(self):
        for n in (5, 6):
            for at, kinds in enumerate(all_kinds(n)):
                chance = chance_of(25, n, at)
                for table in sorts_of_tables(n, kinds, chance)[at % 2::5 if n == 5 else 9]:
                    error = raised(written, n, kinds, table)
                    if error is not None:
                        self.check(n, kinds, table, error.paper, True)
                        for value in twisted(error.paper):
                            self.check_by_words(n, kinds, table, value)

    def test_lots_that_are_none(self):
        table = deed_table(5, ((0,), 1, 2))
        self.check(5, (2,), table, ("moved", (0,)), True)
        for lot in ([0], (False,), (0, 0), (1, 0), (5,), (-1,), "0", 0, (0.0,), ((0,),), {0: 0}, None, (0, 5), (None,)):
            self.check(5, (2,), table, ("moved", lot), False)
        moved = lots_round(5, [(0, 1), (1, 2)])
        self.check(5, (2,), moved, ("moved", (0, 1)), True)
        for lot in ((1, 0), (0, True), [0, 1], (0, 1, 1), (0, 0, 1), (False, 1)):
            self.check(5, (2,), moved, ("moved", lot), False)

    def test_spots_that_are_none(self):
        self.check(5, (1,), ONE, ("signs", ((2, 0), (2, 1))), is_paper_by_words(5, (1,), ONE, ("signs", ((2, 0), (2, 1)))))
        self.check(5, (1,), ONE, ("signs", ((0, 0), (2, 1))), True)
        self.check(5, (1,), ONE, ("signs", ((2, 1), (5, 1))), True)
        for spots in ((), ((2, 1), (2, 1), (2, 1)), ((2, 1), (0, 0)), ((2, 1), (6, 0)), ((-1, 0), (2, 1)), ((0, -1), (2, 1)),
                      ((0, 2), (2, 1)), ((2, True),), ((0, False), (2, 1)), ((False, 0), (2, 1)), ([2, 1],), [(2, 1)], ((2, 1, 0),),
                      ((2,),), (2, 1), ((2.0, 1),), (("2", 1),), ((2, None),), ((None, 1), (2, 1)), ((2, 1), None), ((2, 1), ()),
                      {(2, 1): 0}, "21", ((0, 0), (2, 1), (2, 1)), ((2, 1), (5, 2)), (((2, 1),),)):
            self.check(5, (1,), ONE, ("signs", spots), False)

    def test_forms_that_are_none(self):
        spots = ((2, 1),)
        for value in (["signs", spots], ("signs",), ("signs", spots, 0), ("signs", spots, spots), ("Signs", spots), ("moved", spots),
                      ("sign", spots), (spots, "signs"), ("signs", "signs"), (("signs",), spots), {"signs": spots}, "signs", spots, (), 1):
            self.check(5, (1,), ONE, value, False)
        for value in (["moved", (0, 1)], ("moved",), ("moved", (0, 1), 0), ("Moved", (0, 1)), ("signs", (0, 1)), ("moved", "moved"), (0, 1)):
            self.check(5, (3,), ONE, value, False)


class HoldsTest(unittest.TestCase):
    def test_there_is_a_paper_exactly_if_there_is_no_program(self):
        for at, kinds in enumerate(all_kinds(5)):
            chance = chance_of(26, at)
            for table in sorts_of_tables(5, kinds, chance)[::4]:
                core = core_by_words(5, kinds, table)
                lots = [lot for lot in all_lots(5) if paper_holds(5, kinds, table, ("moved", lot))]
                barring = [] if kinds == (0,) else barring_spots(5, sums_of_kinds(5, kinds), signs_of(5, core))
                error = raised(written, 5, kinds, table)
                self.assertEqual(error is None, lots == [] and barring == [])
                if error is not None:
                    self.assertIs(type(error), Barred)
                    self.assertIn(error.paper, [("moved", lot) for lot in lots] + [("signs", spots) for spots in barring])

    def test_no_goal_is_asked_of_greater_lots(self):
        table = lots_round(5, [(0, 1, 2), (1, 2, 3), (2, 3, 4)])
        self.assertEqual(goal_of(5, table[all_lots(5).index((0, 1, 2))]), (1, 2, 3))
        for kinds in ((1,), (2,), (0, 2)):
            self.assertEqual([lot for lot in all_lots(5) if paper_holds(5, kinds, table, ("moved", lot))], [])
