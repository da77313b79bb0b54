"""[F2] to [F5], and what [F7] says of part tables."""

import unittest
from itertools import permutations, product

from keyriders.doing import table_of
from keyriders.errors import Barred
from keyriders.lots import all_lots
from keyriders.parttables import finish_count, finished, part_error, part_holds, told_signs
from keyriders.programs import kinds_of
from keyriders.signs import signs_of
from keyriders.sizes import table_count
from keyriders.tables import both, deed_table, still, table_error
from keyriders.writing import written
from tests.helper import VALUES, check_call, check_raise, raised, some_tables
from tests.tabled import (
    all_spots, barring_spots, can_be_written, chance_of, deeds_table, drawn_spots, entry_to, goal_of, is_paper_of,
    lots_round, odd_at, riders_round, sorts_of_tables, sums_of_kinds, twisted,
)
from tests.test_signs import counted_signs
from tests.test_sizes import all_kinds
from tests.test_tables import entries_of

HOLES = ((27, (-1, -1, -1, 3, -1)), (28, (-1, -1, 2, -1, -1)), (29, (-1, 0, -1, -1, -1)), (30, (1, -1, -1, -1, -1)))
LONE = tuple([(1 + p, tuple([-1 if x == p else x for x in range(5)])) for p in range(5)])
TURNED = ((1, (-1, 2, 1, 3, 4)),)


def kinds_above(n):
    """Return all ascending tuples of kinds of n without 0, () left out."""
    return [kinds for kinds in all_kinds(n) if kinds[0] > 0]


def part_of(table, numbers):
    """Return the part table that tells the entries of some numbers."""
    return tuple([(number, table[number]) for number in sorted(numbers)])


def drawn_part(table, chance, many):
    """Return a part table of so many drawn entries of a table."""
    return part_of(table, chance.sample(range(len(table)), many))


def agrees(table, part):
    """Return whether a table agrees with a part table."""
    return all(table[number] == entry for number, entry in part)


def told_by_words(n, part):
    """Return the told signs of a part table, by [F3]: those of a table that agrees, found lot by lot."""
    told, table, untold = dict(part), [], []
    lots = all_lots(n)
    for size in range(n + 1):
        numbers = [number for number, lot in enumerate(lots) if len(lot) == size]
        untold.append([number for number in numbers if number not in told])
        left = [lots[number] for number in numbers]
        for number in numbers:
            if number in told:
                left.remove(goal_of(n, told[number]))
        table.extend([told[number] if number in told else entry_to(n, lots[number], left.pop(0), None) for number in numbers])
    row = counted_signs(n, tuple(table))
    return tuple([(row[m][0] if len(untold[m]) <= 1 else None, row[m][1] if m >= n - 1 or not untold[m] else None)
                  for m in range(n + 1)])


def moved_by_words(n, kinds, part):
    """Return the told lots that a part table leads as no program of kinds does."""
    lots, found = all_lots(n), []
    for number, entry in part:
        lot = lots[number]
        if len(lot) < kinds[0] and entry != still(n)[number] or len(lot) == kinds[0] and goal_of(n, entry) != lot:
            found.append(lot)
    return found


def is_paper_by_words(n, kinds, part, value):
    """Return whether value is a paper of kinds and a part table, by [F4]."""
    return is_paper_of(n, kinds, moved_by_words(n, kinds, part), told_by_words(n, part), value)


def can_be_finished(n, kinds, part):
    """Return whether a table that programs of kinds do agrees with a part table: no paper, by [F4]."""
    told = told_by_words(n, part)
    spots = [spot for spot in all_spots(n) if told[spot[0]][spot[1]] is not None]
    meets = [all(told[m][side] == row[m][side] for m, side in spots) for row in sums_of_kinds(n, kinds)]
    return moved_by_words(n, kinds, part) == [] and any(meets)


def completions(n, part):
    """Return all tables that agree with a part table, found lot by lot."""
    lots, told = all_lots(n), dict(part)
    choices = []
    for size in range(n + 1):
        numbers = [number for number, lot in enumerate(lots) if len(lot) == size]
        untold = [number for number in numbers if number not in told]
        taken = [goal_of(n, told[number]) for number in numbers if number in told]
        left = [lots[number] for number in numbers if lots[number] not in taken]
        ways = []
        for aims in permutations(left):
            ways.extend(product(*[entries_between(n, lots[number], aim) for number, aim in zip(untold, aims)]))
        choices.append([dict(zip(untold, way)) for way in ways])
    tables = []
    for chosen in product(*choices):
        found = dict(told)
        for entries in chosen:
            found.update(entries)
        tables.append(tuple([found[number] for number in range(len(lots))]))
    return tables


def entries_between(n, lot, aim):
    """Return all entries that lead a lot to a goal."""
    return [entry for entry in entries_of(n, lot) if goal_of(n, entry) == aim]


def error_by_words(n, value):
    """Return what is wrong with a tuple of items, by [F2]."""
    lots = all_lots(n)
    for place, item in enumerate(value):
        if type(item) is not tuple or len(item) != 2 or type(item[0]) is not int or item[0] not in range(len(lots)):
            return ("number", place)
    for place, (number, entry) in enumerate(value):
        right = type(entry) is tuple and len(entry) == n and all(type(way) is int for way in entry)
        if not right or entry not in entries_of(n, lots[number]):
            return ("entry", place)
    for place in range(1, len(value)):
        if value[place][0] <= value[place - 1][0]:
            return ("order", place)
    for place, (_, entry) in enumerate(value):
        if goal_of(n, entry) in [goal_of(n, other) for _, other in value[:place]]:
            return ("goal", place)
    return None


class PartErrorTest(unittest.TestCase):
    def check(self, n, value, told):
        self.assertEqual(check_call(self, part_error, n=n, value=value), told, value)

    def test_the_examples(self):
        self.check(5, HOLES, None)
        self.check(5, (), None)
        self.check(5, list(HOLES), "form")
        self.check(5, ((32, ()),), ("number", 0))
        self.check(5, HOLES[:1] + ((28, (-1, -1, 5, -1, -1)),), ("entry", 1))
        self.check(5, HOLES[::-1], ("order", 1))
        self.check(5, (HOLES[0], (28, (-1, -1, 3, -1, -1))), ("goal", 1))
        self.check(5, LONE, None)
        self.check(5, LONE + HOLES, None)
        self.check(5, TURNED, None)

    def test_part_tables(self):
        for n in (5, 6):
            chance = chance_of(30, n)
            for table in some_tables(n, 12, 30 + n):
                self.check(n, tuple(enumerate(table)), None)
                for many in (1, 2, 5, len(table) // 2, len(table) - 1):
                    self.check(n, drawn_part(table, chance, many), None)

    def test_values_of_all_kinds(self):
        for value in VALUES:
            told = None if value == () else error_by_words(5, value) if type(value) is tuple else "form"
            self.check(5, value, told)
            self.check(5, (value,), ("number", 0))
            self.check(5, LONE[:2] + (value,) + HOLES, ("number", 2))
            if not (type(value) is int and value in range(32)):
                self.check(5, ((value, (0, 1, 2, 3, 4)),), ("number", 0))
            self.check(5, ((0, value),), ("entry", 0))
            self.check(5, LONE[:4] + ((5, value),) + HOLES, ("entry", 4))
            if value != 0 or type(value) is not int:
                self.check(5, ((0, (value, 1, 2, 3, 4)),), ("entry", 0))

    def test_numbers(self):
        for n, most in ((5, 31), (6, 63)):
            table = some_tables(n, 1, 31)[0]
            for number in (-1, -10 ** 30, most + 1, 10 ** 30, True, False, None, "1", (1,), [1]):
                self.check(n, ((number, table[1]),), ("number", 0))
                self.check(n, ((0, table[0]), (number, table[1])), ("number", 1))
            self.check(n, ((0, table[0]), (most, table[most])), None)
            for item in ((1,), (), (1, table[1], 0), [1, table[1]], {1: table[1]}, 1, None, table[1], "ab"):
                self.check(n, (item,), ("number", 0))
                self.check(n, ((0, table[0]), item), ("number", 1))

    def test_entries(self):
        for n in (5, 6):
            table = some_tables(n, 1, 32)[0]
            for number, entry in enumerate(table):
                for other in (0, 1, n, len(table) - 1):
                    right = table[other] in entries_of(n, all_lots(n)[number])
                    self.check(n, ((number, table[other]),), None if right else ("entry", 0))
                for value in (list(entry), entry[:-1], entry + (-1,), None, (), number, entry[:-1] + (n,), entry[:-1] + (-2,),
                              entry[:-1] + (True,), (False,) + entry[1:], (entry,), entry[:-1] + (None,)):
                    self.check(n, ((number, value),), ("entry", 0))

    def test_order_and_goals(self):
        for n in (5, 6):
            chance = chance_of(33, n)
            table = some_tables(n, 1, 33)[0]
            for _ in range(40):
                one, other = sorted(chance.sample(range(len(table)), 2))
                pair = ((one, table[one]), (other, table[other]))
                self.check(n, pair, None)
                self.check(n, pair[::-1], ("order", 1))
                self.check(n, pair + pair[1:], ("order", 2))
                self.check(n, pair[:1] * 2, ("order", 1))
            for size in range(1, n):
                numbers = [number for number, lot in enumerate(all_lots(n)) if len(lot) == size]
                one, other = sorted(chance.sample(numbers, 2))
                aim = goal_of(n, table[one])
                pair = ((one, table[one]), (other, entry_to(n, all_lots(n)[other], aim, chance)))
                self.check(n, pair, ("goal", 1))
                self.check(n, pair[::-1], ("order", 1))
                self.check(n, ((0, table[0]),) + pair, ("goal", 2))

    def test_two_faults(self):
        words = ("number", "entry", "order", "goal")
        for n in (5, 6):
            chance = chance_of(34, n)
            for table in some_tables(n, 12, 34):
                for one, other in product(words, repeat=2):
                    part = drawn_part(table, chance, 12)
                    items = list(part)
                    for at, word in zip(chance.sample(range(1, 12), 2), (one, other)):
                        items[at] = self.spoilt(n, part, at, word, chance)
                    told = error_by_words(n, tuple(items))
                    self.check(n, tuple(items), told)
                    if "goal" not in (one, other):
                        self.assertEqual(told[0], min(one, other, key=words.index))

    def spoilt(self, n, part, at, word, chance):
        """Return what stands for the item at a place with a fault; if no goal ahead fits its lot, without one."""
        number, entry = part[at]
        if word == "number":
            return chance.choice(((-1, entry), (2 ** n, entry), (True, entry), [number, entry], (number,), (None, entry)))
        if word == "entry":
            return (number, chance.choice((list(entry), None, entry[:-1], entry[:-1] + (n,), (True,) + entry[1:])))
        if word == "order":
            return part[0]
        lot = all_lots(n)[number]
        aims = [goal_of(n, other) for _, other in part[:at] if len(goal_of(n, other)) == len(lot)]
        return (number, entry_to(n, lot, aims[0], chance) if aims else entry)

    def test_which_comes_first(self):
        ahead = LONE[:2] + HOLES[:1]
        wrong = (-1, -1, -1, -1, -1)
        faults = {
            "number": ((40, wrong), (-1, wrong)), "entry": ((28, wrong), (29, wrong)), "order": (LONE[0], LONE[1]),
            "goal": ((28, (-1, -1, 3, -1, -1)), (29, (-1, 3, -1, -1, -1))),
        }
        words = list(faults)
        for one, other in product(words, repeat=2):
            told = (one, 3) if words.index(one) <= words.index(other) else (other, 4)
            self.check(5, ahead + (faults[one][0], faults[other][1]), told)


class ToldSignsTest(unittest.TestCase):
    def check(self, n, part):
        found = check_call(self, told_signs, n=n, part=part)
        self.assertEqual(found, told_by_words(n, part))
        return found

    def check_agreeing(self, n, part, table):
        """Check the told signs against those of a table that agrees, and of such with other signs that are not told."""
        row = signs_of(n, table)
        for m, (told, pair) in enumerate(zip(self.check(n, part), row)):
            for side in (0, 1):
                if told[side] is not None:
                    self.assertEqual(told[side], pair[side])
                else:
                    other = self.other_way(n, part, table, m, side)
                    self.assertTrue(agrees(other, part))
                    self.assertIsNone(table_error(n, other))
                    self.assertNotEqual(signs_of(n, other)[m][side], pair[side])

    def other_way(self, n, part, table, m, side):
        """Return a table that agrees as well, with the other sign: of the lots, or of the riders."""
        untold = [lot for number, lot in enumerate(all_lots(n)) if len(lot) == m and number not in dict(part)]
        if side == 0:
            return both(n, lots_round(n, untold[:2]), table)
        free = [place for place in range(n) if place not in untold[0]]
        return both(n, riders_round(n, untold[0], free[:2]), table)

    def test_the_examples(self):
        nothing = (None, None)
        self.assertEqual(told_signs(5, HOLES), ((0, None), nothing, nothing, nothing, (1, 0), (0, 0)))
        self.assertEqual(told_signs(5, LONE + HOLES), ((0, None), (0, 0), nothing, nothing, (1, 0), (0, 0)))
        self.assertEqual(told_signs(5, LONE[:4])[1], (0, None))
        self.assertEqual(told_signs(5, ()), ((0, None), nothing, nothing, nothing, (None, 0), (0, 0)))
        self.assertEqual(told_signs(6, ()), ((0, None), nothing, nothing, nothing, nothing, (None, 0), (0, 0)))

    def test_all_lots_told(self):
        for n in (5, 6):
            for table in some_tables(n, 10, 35):
                self.assertEqual(self.check(n, tuple(enumerate(table))), signs_of(n, table))

    def test_one_two_and_all_untold_of_each_size(self):
        for n in (5, 6):
            chance = chance_of(36, n)
            for table in some_tables(n, 4, 36):
                for size in range(n + 1):
                    numbers = [number for number, lot in enumerate(all_lots(n)) if len(lot) == size]
                    for untold in ([], chance.sample(numbers, 1), chance.sample(numbers, min(2, len(numbers))), numbers):
                        self.check_agreeing(n, part_of(table, set(range(len(table))) - set(untold)), table)
                        self.check_agreeing(n, part_of(table, set(numbers) - set(untold)), table)

    def test_drawn(self):
        for n in (5, 6):
            chance = chance_of(37, n)
            for table in some_tables(n, 25, 37):
                self.check_agreeing(n, drawn_part(table, chance, chance.randint(0, len(table))), table)
                self.check_agreeing(n, drawn_part(table, chance, len(table) - chance.randint(0, 6)), table)


class FinishedTest(unittest.TestCase):
    def check(self, n, kinds, part):
        """Check what is found or raised for a part table, by [F4]; return the table, or None."""
        if can_be_finished(n, kinds, part):
            table = finished(n, kinds, part)
            self.assertIsNone(table_error(n, table))
            self.assertTrue(agrees(table, part))
            self.assertTrue(can_be_written(n, kinds, table), (kinds, part))
            self.assertGreater(finish_count(n, kinds, part), 0)
            return table
        error = raised(finished, n, kinds, part)
        self.assertIs(type(error), Barred, (kinds, part))
        self.assertIs(part_holds(n, kinds, part, error.paper), True)
        self.assertTrue(is_paper_by_words(n, kinds, part, error.paper))
        self.assertEqual(finish_count(n, kinds, part), 0)
        return None

    def check_done(self, n, kinds, table, part):
        """Check what is found for entries of a table that programs of kinds do."""
        found = self.check(n, kinds, part)
        self.assertIsNotNone(found, (kinds, part))
        return found

    def test_the_examples(self):
        found = finished(5, (1,), HOLES)
        self.assertEqual(found[27:31], tuple([entry for number, entry in HOLES]))
        self.assertEqual(table_of(5, written(5, (1,), found)), found)

    def test_by_place_and_by_name_and_again(self):
        for n in (5, 6):
            for at, kinds in enumerate(kinds_above(n)):
                chance = chance_of(40, n, at)
                table = deeds_table(n, kinds, 5, chance)
                part = drawn_part(table, chance, len(table) // 2)
                found = check_call(self, finished, n=n, kinds=kinds, part=part)
                finished(n, (1,), ())
                self.assertEqual(finished(n, kinds, part), found)
        for kinds, part in (((1,), LONE + HOLES), ((2,), TURNED)):
            paper = raised(finished, 5, kinds, part).paper
            check_raise(self, finished, Barred, {"paper": paper}, n=5, kinds=kinds, part=part)

    def test_nothing_told_and_all(self):
        for n in (5, 6):
            for at, kinds in enumerate(kinds_above(n)):
                self.check_done(n, kinds, still(n), ())
                table = deeds_table(n, kinds, 4, chance_of(41, n, at))
                self.assertEqual(self.check_done(n, kinds, table, tuple(enumerate(table))), table)
                for table in some_tables(n, 2, 41):
                    self.check(n, kinds, tuple(enumerate(table)))

    def test_parts_of_what_is_done(self):
        for n in (5, 6):
            for at, kinds in enumerate(kinds_above(n)):
                chance = chance_of(42, n, at)
                for _ in range(12 if n == 5 else 5):
                    table = deeds_table(n, kinds, chance.randint(1, 20), chance)
                    self.check_done(n, kinds, table, drawn_part(table, chance, chance.randint(0, len(table))))
                    self.check_done(n, kinds, table, drawn_part(table, chance, len(table) - chance.randint(1, 5)))
                    sizes = chance.sample(range(n + 1), 3)
                    self.check_done(n, kinds, table, part_of(table, [at for at, lot in enumerate(all_lots(n)) if len(lot) in sizes]))

    def test_parts_of_all_sorts(self):
        for n in (5, 6):
            for at, kinds in enumerate(kinds_above(n)):
                chance = chance_of(43, n, at)
                for table in sorts_of_tables(n, kinds, chance) + some_tables(n, 3, at):
                    self.check(n, kinds, drawn_part(table, chance, chance.randint(1, len(table))))
                    self.check(n, kinds, drawn_part(table, chance, len(table) - chance.randint(0, 3)))
                    least = len([lot for lot in all_lots(n) if len(lot) <= kinds[0]])
                    free = list(range(least, len(table)))
                    self.check(n, kinds, part_of(table, chance.sample(free, chance.randint(0, len(free)))))
                    sizes = chance.sample(range(n + 1), 4)
                    self.check(n, kinds, part_of(table, [at for at in free if len(all_lots(n)[at]) in sizes]))

    def test_what_is_found_is_written(self):
        for n in (5, 6):
            for at, kinds in enumerate(kinds_above(n)[::2]):
                chance = chance_of(44, n, at)
                table = deeds_table(n, kinds, 6, chance)
                found = finished(n, kinds, drawn_part(table, chance, len(table) - 6))
                program = written(n, kinds, found)
                self.assertEqual(table_of(n, program), found)
                self.assertLessEqual(set(kinds_of(program)), set(kinds))


class PartHoldsTest(unittest.TestCase):
    def check(self, n, kinds, part, value, told):
        self.assertIs(check_call(self, part_holds, n=n, kinds=kinds, part=part, value=value), told, (kinds, value))

    def check_by_words(self, n, kinds, part, value):
        self.assertIs(part_holds(n, kinds, part, value), is_paper_by_words(n, kinds, part, value), (kinds, part, value))

    def test_the_examples(self):
        values = (("signs", ((1, 1), (4, 0))), ("signs", ((4, 0),)), ("signs", ((2, 1), (4, 0))), ("moved", (0,)), None)
        for value, told in zip(values, (True, False, False, False, False)):
            self.check(5, (1,), LONE + HOLES, value, told)
        self.check(5, (2,), LONE + HOLES, ("signs", ((1, 1), (4, 0))), False)
        self.check(5, (1,), HOLES, ("signs", ((1, 1), (4, 0))), False)
        self.check(5, (2,), TURNED, ("moved", (0,)), True)
        self.check(5, (1,), TURNED, ("moved", (0,)), False)
        self.check(5, (2, 3), TURNED, ("moved", (1,)), False)

    def test_lots_moved_told_and_untold(self):
        for n in (5, 6):
            for at, kinds in enumerate(kinds_above(n)):
                chance = chance_of(50, n, at)
                for table in some_tables(n, 2, at) + sorts_of_tables(n, kinds, chance)[at % 3::4]:
                    part = drawn_part(table, chance, chance.randint(1, len(table)))
                    held = [lot for lot in all_lots(n) if part_holds(n, kinds, part, ("moved", lot))]
                    self.assertEqual(held, moved_by_words(n, kinds, part))

    def test_spots_told_and_untold(self):
        for n in (5, 6):
            for at, kinds in enumerate(kinds_above(n)):
                chance = chance_of(51, n, at)
                for table in some_tables(n, 1, at) + sorts_of_tables(n, kinds, chance)[at % 3::5]:
                    part = drawn_part(table, chance, len(table) - chance.randint(0, 4))
                    told = told_by_words(n, part)
                    known = [spot for spot in all_spots(n) if told[spot[0]][spot[1]] is not None]
                    for _ in range(10):
                        self.check_by_words(n, kinds, part, ("signs", drawn_spots(n, chance)))
                        some = tuple(sorted(chance.sample(known, chance.randint(1, len(known)))))
                        self.check_by_words(n, kinds, part, ("signs", some))
                    for spots in barring_spots(n, sums_of_kinds(n, kinds), told)[::97]:
                        self.check(n, kinds, part, ("signs", spots), True)

    def test_values_of_all_kinds(self):
        for value in VALUES:
            self.check(5, (1,), LONE + HOLES, value, False)
            self.check(5, (1,), LONE + HOLES, ("signs", value), False)
            self.check(5, (1,), LONE + HOLES, (value, ((1, 1), (4, 0))), False)
            self.check(5, (2,), TURNED, ("moved", value), type(value) is tuple and value == (0,))
            self.check(5, (2,), TURNED, (value, (0,)), False)

    def test_papers_with_parts_changed(self):
        for n in (5, 6):
            for at, kinds in enumerate(kinds_above(n)):
                chance = chance_of(52, n, at)
                for table in sorts_of_tables(n, kinds, chance)[at % 2::4] + some_tables(n, 2, at):
                    least = len([lot for lot in all_lots(n) if len(lot) <= kinds[0]])
                    for part in (drawn_part(table, chance, len(table) // 2), tuple(enumerate(table))[least:]):
                        error = raised(finished, n, kinds, part)
                        if error is not None:
                            self.check(n, kinds, part, error.paper, True)
                            for value in twisted(error.paper):
                                self.check_by_words(n, kinds, part, value)

    def test_a_paper_exactly_if_it_cannot_be_finished(self):
        for at, kinds in enumerate(kinds_above(5)):
            chance = chance_of(53, at)
            for table in sorts_of_tables(5, kinds, chance)[::3]:
                for many in (8, 20, 28, 31, 32):
                    part = drawn_part(table, chance, many)
                    rows = sums_of_kinds(5, kinds)
                    barring = barring_spots(5, rows, told_by_words(5, part))
                    lots = [lot for lot in all_lots(5) if part_holds(5, kinds, part, ("moved", lot))]
                    self.assertEqual(raised(finished, 5, kinds, part) is None, barring == [] and lots == [])
                    self.assertEqual(finish_count(5, kinds, part) > 0, barring == [] and lots == [])


class FinishCountTest(unittest.TestCase):
    def count(self, n, kinds, part):
        return check_call(self, finish_count, n=n, kinds=kinds, part=part)

    def test_the_examples(self):
        self.assertEqual(self.count(5, (3,), ()), 61440)
        self.assertEqual(self.count(5, (3,), HOLES), 512)
        self.assertEqual(self.count(5, (1,), LONE + HOLES), 0)
        self.assertEqual(self.count(5, (2,), TURNED), 0)

    def test_nothing_told(self):
        for n in (5, 6):
            for kinds in kinds_above(n):
                self.assertEqual(self.count(n, kinds, ()), table_count(n, kinds))

    def test_all_told(self):
        for n in (5, 6):
            for at, kinds in enumerate(kinds_above(n)):
                for table in sorts_of_tables(n, kinds, chance_of(60, n, at))[::2]:
                    self.assertEqual(self.count(n, kinds, tuple(enumerate(table))), int(can_be_written(n, kinds, table)))

    def test_few_untold_one_by_one(self):
        for n, many in ((5, 5), (6, 2)):
            for at, kinds in enumerate(kinds_above(n)):
                chance = chance_of(61, n, at)
                for _ in range(many):
                    table = deeds_table(n, kinds, chance.randint(1, 9), chance)
                    if chance.random() < 0.3:
                        table = both(n, table, sorts_of_tables(n, kinds, chance)[-1])
                    large = [number for number, lot in enumerate(all_lots(n)) if len(lot) >= n - 2]
                    untold = chance.sample(large, chance.randint(1, 4))
                    if chance.random() < 0.5:
                        untold = untold[:2] + chance.sample([at for at, lot in enumerate(all_lots(n)) if len(lot) == n - 3], 1)
                    part = part_of(table, set(range(len(table))) - set(untold))
                    tables = [found for found in completions(n, part) if can_be_written(n, kinds, found)]
                    self.assertEqual(self.count(n, kinds, part), len(tables), (kinds, untold))
                    self.assertEqual(raised(finished, n, kinds, part) is None, tables != [])
                    if tables:
                        self.assertIn(finished(n, kinds, part), tables)

    def test_an_entry_told_besides(self):
        for n, most in ((5, 14), (6, 6)):
            for at, kinds in enumerate(kinds_above(n)):
                chance = chance_of(62, n, at)
                for _ in range(2 if n == 5 else 1):
                    table = deeds_table(n, kinds, chance.randint(1, 9), chance)
                    for many in (0, 5, len(table) // 2, len(table) - 8, len(table) - 3):
                        part = drawn_part(table, chance, many)
                        free = [number for number in range(len(table)) if number not in dict(part)]
                        free = [number for number in free if len(all_lots(n)[number]) >= (1 if n == 5 else 3)]
                        for number in chance.sample(free, min(1, len(free))):
                            self.check_besides(n, kinds, part, number)

    def check_besides(self, n, kinds, part, number):
        """Check that the counts with an entry of a lot told besides, in all ways that it can have, make that without it."""
        lot = all_lots(n)[number]
        taken = [goal_of(n, entry) for _, entry in part]
        together = 0
        for entry in entries_of(n, lot):
            if goal_of(n, entry) not in taken:
                together += finish_count(n, kinds, tuple(sorted(part + ((number, entry),))))
        self.assertEqual(together, finish_count(n, kinds, part), (kinds, part, number))

    def test_none_if_there_is_a_paper(self):
        for n in (5, 6):
            for at, kinds in enumerate(kinds_above(n)):
                chance = chance_of(63, n, at)
                for table in some_tables(n, 3, at):
                    part = drawn_part(table, chance, len(table) - 2)
                    self.assertEqual(self.count(n, kinds, part) > 0, can_be_finished(n, kinds, part))
                    self.assertEqual(self.count(n, kinds, part) > 0, raised(finished, n, kinds, part) is None)

    def test_a_table_that_is_done_leaves_no_paper(self):
        chance = chance_of(64)
        for kinds in kinds_above(5):
            table = deeds_table(5, kinds, 5, chance)
            row = counted_signs(5, table)
            for many in (0, 9, 25, 32):
                part = drawn_part(table, chance, many)
                for lot in all_lots(5):
                    self.assertIs(part_holds(5, kinds, part, ("moved", lot)), False)
                for _ in range(40):
                    spots = drawn_spots(5, chance)
                    self.assertIs(part_holds(5, kinds, part, ("signs", spots)), False)
                    self.assertIsNotNone(odd_at(row, spots))

    def test_one_deed(self):
        for k in (1, 2, 3):
            part = tuple(enumerate(deed_table(5, (tuple(range(k)), k, k + 1))))
            for kinds in kinds_above(5):
                self.assertEqual(self.count(5, kinds, part), int(k in kinds))
