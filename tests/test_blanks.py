"""[F6], and what [F7] says of goals."""

import unittest

from keyriders.blanks import blank_holds, blank_written, goals_of
from keyriders.doing import table_of
from keyriders.errors import Barred
from keyriders.lots import all_lots
from keyriders.programs import kinds_of, program_error
from keyriders.tables import both, deed_table, still
from tests.helper import VALUES, check_call, check_raise, raised, some_tables
from tests.tabled import (
    all_spots, barring_spots, chance_of, deeds_table, dense_table, drawn_spots, goal_of, is_paper_of, lots_round,
    riders_round, sorts_of_tables, sums_of_kinds, twisted,
)
from tests.test_parttables import kinds_above
from tests.test_signs import counted_signs

GOALS = goals_of(5, deed_table(5, ((0,), 1, 2)))
LAST = tuple(range(26)) + (26, 27, 29, 28, 30, 31)


def goals_by_words(n, table):
    """Return the numbers of the goals of all lots."""
    return tuple([all_lots(n).index(goal_of(n, entry)) for entry in table])


def exchanged(goals, *numbers):
    """Return goals with those of some lots led round: each gets that of the next one."""
    found = list(goals)
    for number, other in zip(numbers, numbers[1:] + numbers[:1]):
        found[number] = goals[other]
    return tuple(found)


def goals_row(n, goals):
    """Return the signs s that goals tell, None for each sign t."""
    return tuple([(s, None) for s, _ in counted_signs(n, lots_table(n, goals))])


def lots_table(n, goals):
    """Return the table that leads lots to goals, and the riders of each in order."""
    lots = all_lots(n)
    entries = []
    for lot, number in zip(lots, goals):
        free = [place for place in range(n) if place not in lots[number]]
        entries.append(tuple([-1 if place in lot else free.pop(0) for place in range(n)]))
    return tuple(entries)


def moved_by_words(n, kinds, goals):
    """Return the lots of at most as many places as the least kind that have another goal."""
    return [lot for number, lot in enumerate(all_lots(n)) if len(lot) <= kinds[0] and goals[number] != number]


def is_paper_by_words(n, kinds, goals, value):
    """Return whether value is a paper of kinds and goals, by [F6]."""
    return is_paper_of(n, kinds, moved_by_words(n, kinds, goals), goals_row(n, goals), value)


def can_be_written(n, kinds, goals):
    """Return whether some program of kinds has these goals, by [F5]: riders may then be led as signs ask."""
    told = [s for s, _ in goals_row(n, goals)]
    return moved_by_words(n, kinds, goals) == [] and told in [[s for s, _ in row] for row in sums_of_kinds(n, kinds)]


class BlanksTest(unittest.TestCase):
    def check(self, n, kinds, goals):
        """Check what is returned or raised for goals; return the program, or None."""
        if can_be_written(n, kinds, goals):
            program = blank_written(n, kinds, goals)
            self.assertIsNone(program_error(n, program))
            self.assertLessEqual(set(kinds_of(program)), set(kinds))
            self.assertEqual(goals_by_words(n, table_of(n, program)), goals)
            return program
        error = raised(blank_written, n, kinds, goals)
        self.assertIs(type(error), Barred, (kinds, goals))
        self.assertIs(blank_holds(n, kinds, goals, error.paper), True)
        self.assertTrue(is_paper_by_words(n, kinds, goals, error.paper))
        return None

    def check_done(self, n, kinds, table):
        self.assertIsNotNone(self.check(n, kinds, goals_by_words(n, table)), kinds)


class GoalsOfTest(unittest.TestCase):
    def test_the_examples(self):
        self.assertEqual(GOALS[:8], (0, 1, 2, 3, 4, 5, 7, 6))
        self.assertEqual(GOALS[16:22], (16, 19, 20, 17, 18, 21))
        self.assertEqual(GOALS[26:], (26, 27, 29, 28, 30, 31))

    def test_many(self):
        for n in (5, 6):
            for table in some_tables(n, 20, 70) + [still(n), deed_table(n, ((1, 2), 0, 4))]:
                found = check_call(self, goals_of, n=n, table=table)
                self.assertEqual(found, goals_by_words(n, table))
                self.assertEqual(sorted(found), list(range(len(table))))


class BlankWrittenTest(BlanksTest):
    def test_the_examples(self):
        self.assertEqual(goals_of(5, table_of(5, blank_written(5, (3,), LAST))), LAST)
        for kinds in kinds_above(5):
            self.check(5, kinds, LAST)
            self.check(5, kinds, GOALS)

    def test_by_place_and_by_name_and_again(self):
        for n in (5, 6):
            for kinds in kinds_above(n)[::3]:
                goals = goals_by_words(n, deeds_table(n, kinds, 4, chance_of(71, n, len(kinds))))
                program = check_call(self, blank_written, n=n, kinds=kinds, goals=goals)
                blank_written(n, (1,), tuple(range(2 ** n)))
                self.assertEqual(blank_written(n, kinds, goals), program)
        for kinds, goals in (((1,), LAST), ((2,), GOALS)):
            paper = raised(blank_written, 5, kinds, goals).paper
            check_raise(self, blank_written, Barred, {"paper": paper}, n=5, kinds=kinds, goals=goals)

    def test_goals_of_drawn_deeds(self):
        for n, many in ((5, (1, 1, 2, 3, 4, 9)), (6, (2, 7))):
            for at, kinds in enumerate(kinds_above(n)):
                chance = chance_of(72, n, at)
                self.check_done(n, kinds, still(n))
                for deeds in many:
                    self.check_done(n, kinds, deeds_table(n, kinds, deeds, chance))
                if n == 5 or at % 5 == 0:
                    self.check_done(n, kinds, dense_table(n, kinds, chance))

    def test_riders_do_not_count(self):
        for n in (5, 6):
            chance = chance_of(73, n)
            for kinds in kinds_above(n)[::2]:
                table = deeds_table(n, kinds, 3, chance)
                for lot in chance.sample([lot for lot in all_lots(n) if len(lot) < n - 1], 2):
                    free = [place for place in range(n) if place not in lot]
                    other = both(n, riders_round(n, lot, free[:2]), table)
                    self.assertEqual(goals_of(n, other), goals_of(n, table))
                    self.check_done(n, kinds, other)

    def test_two_and_three_lots_of_one_size_turned(self):
        for n, many in ((5, 6), (6, 1)):
            for at, kinds in enumerate(kinds_above(n)):
                chance = chance_of(74, n, at)
                for size in range(1, n):
                    numbers = [number for number, lot in enumerate(all_lots(n)) if len(lot) == size]
                    for turned in (2, 3, 4)[:many]:
                        goals = goals_by_words(n, deeds_table(n, kinds, chance.choice((0, 0, 3)), chance))
                        self.check(n, kinds, exchanged(goals, *chance.sample(numbers, turned)))

    def test_goals_of_drawn_tables(self):
        for n in (5, 6):
            for table in some_tables(n, 5, 75):
                for kinds in kinds_above(n)[::2]:
                    self.check(n, kinds, goals_by_words(n, table))

    def test_lots_above_the_least_drawn(self):
        for n in (5, 6):
            for at, kinds in enumerate(kinds_above(n)):
                for table in some_tables(n, 2, 76 + at):
                    least = len([lot for lot in all_lots(n) if len(lot) <= kinds[0]])
                    goals = tuple(range(least)) + goals_by_words(n, table)[least:]
                    self.check(n, kinds, goals)

    def test_never_both(self):
        for at, kinds in enumerate(kinds_above(5)):
            chance = chance_of(77, at)
            for table in sorts_of_tables(5, kinds, chance)[::4]:
                goals = goals_by_words(5, table)
                barring = barring_spots(5, sums_of_kinds(5, kinds), goals_row(5, goals))
                papers = [("moved", lot) for lot in all_lots(5)] + [("signs", spots) for spots in barring]
                papers += [("signs", drawn_spots(5, chance)) for _ in range(30)] + [("signs", (spot,)) for spot in all_spots(5)]
                held = [paper for paper in papers if blank_holds(5, kinds, goals, paper)]
                self.assertEqual(held, [paper for paper in papers if is_paper_by_words(5, kinds, goals, paper)])
                self.assertEqual(raised(blank_written, 5, kinds, goals) is None, held == [])


class BlankHoldsTest(BlanksTest):
    def check_holds(self, n, kinds, goals, value, told):
        self.assertIs(check_call(self, blank_holds, n=n, kinds=kinds, goals=goals, value=value), told, (kinds, value))

    def check_by_words(self, n, kinds, goals, value):
        self.assertIs(blank_holds(n, kinds, goals, value), is_paper_by_words(n, kinds, goals, value), (kinds, goals, value))

    def test_the_examples(self):
        self.check_holds(5, (1,), LAST, ("signs", ((2, 0), (4, 0))), True)
        self.check_holds(5, (1, 2), LAST, ("signs", ((2, 0), (3, 0), (4, 0))), True)
        self.check_holds(5, (1, 2), LAST, ("signs", ((2, 0), (4, 0))), False)
        self.check_holds(5, (1,), LAST, ("signs", ((1, 1), (4, 0))), False)
        self.check_holds(5, (2,), GOALS, ("moved", (0, 1)), True)
        self.check_holds(5, (1,), GOALS, ("moved", (0, 1)), False)

    def test_lots_moved_and_not(self):
        for n in (5, 6):
            for kinds in kinds_above(n):
                for table in some_tables(n, 2, 78) + [deed_table(n, ((0,), 1, 2)), lots_round(n, all_lots(n)[7:10])]:
                    goals = goals_by_words(n, table)
                    held = [lot for lot in all_lots(n) if blank_holds(n, kinds, goals, ("moved", lot))]
                    self.assertEqual(held, moved_by_words(n, kinds, goals))

    def test_spots_of_riders(self):
        for n in (5, 6):
            for at, kinds in enumerate(kinds_above(n)):
                chance = chance_of(79, n, at)
                goals = goals_by_words(n, some_tables(n, 1, at)[0])
                for spots in barring_spots(n, sums_of_kinds(n, kinds), goals_row(n, goals))[::7]:
                    self.check_holds(n, kinds, goals, ("signs", spots), True)
                    for m in range(n + 1):
                        with_riders = tuple(sorted(spots + ((m, 1),)))
                        self.check_holds(n, kinds, goals, ("signs", with_riders), False)
                    self.check_holds(n, kinds, goals, ("signs", tuple([(m, 1) for m, _ in spots])), False)
                for _ in range(20):
                    self.check_by_words(n, kinds, goals, ("signs", drawn_spots(n, chance)))

    def test_values_of_all_kinds(self):
        for value in VALUES:
            self.check_holds(5, (1,), LAST, value, False)
            self.check_holds(5, (1,), LAST, ("signs", value), False)
            self.check_holds(5, (1,), LAST, ("moved", value), False)
            self.check_holds(5, (2,), GOALS, ("moved", value), False)
            self.check_holds(5, (1,), LAST, (value, ((2, 0), (4, 0))), False)
            self.check_holds(5, (2,), GOALS, (value, (0, 1)), False)

    def test_papers_with_parts_changed(self):
        for n in (5, 6):
            for at, kinds in enumerate(kinds_above(n)):
                for table in sorts_of_tables(n, kinds, chance_of(80, n, at))[at % 2::4] + some_tables(n, 1, at):
                    least = len([lot for lot in all_lots(n) if len(lot) <= kinds[0]])
                    goals = goals_by_words(n, table)
                    for told in (goals, tuple(range(least)) + goals[least:]):
                        if not can_be_written(n, kinds, told):
                            paper = raised(blank_written, n, kinds, told).paper
                            self.check_holds(n, kinds, told, paper, True)
                            for value in twisted(paper):
                                self.check_by_words(n, kinds, told, value)

    def test_forms_that_are_none(self):
        right = ((2, 0), (4, 0))
        for spots in ((), list(right), right[::-1], right + right[1:], ((2, False), (4, 0)), ([2, 0], [4, 0]), (right,), ((2, 0), (4,)),
                      ((2, 0, 0), (4, 0, 0)), ((-2, 0), (4, 0)), ((2, 0), (4, 0), (6, 0)), ((2, 0), (4, 2)), right + (None,)):
            self.check_holds(5, (1,), LAST, ("signs", spots), False)
        for lot in ([0, 1], (1, 0), (False, 1), (0, True), (0, 1, 1), (0, 5), ((0, 1),), 6, "01", None):
            self.check_holds(5, (2,), GOALS, ("moved", lot), False)
        for value in (["signs", right], ("signs",), ("signs", right, 0), ("moved", right), ("Signs", right), right, (right, "signs")):
            self.check_holds(5, (1,), LAST, value, False)
