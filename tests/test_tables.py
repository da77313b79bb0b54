"""[C1] to [C4], and what [C6] says of them."""

import random
import unittest
from itertools import permutations, product

from keyriders.deeds import done
from keyriders.lots import all_lots, lot_number
from keyriders.tables import both, deed_table, exchange_of, goal, order_of, power, still, table_error, undone
from tests.helper import VALUES, check_call, led_by, some_tables, table_by, within
from tests.test_deeds import all_deeds

MANY = 10 ** 30
SOME = both(3, deed_table(3, ((0,), 1, 2)), deed_table(3, ((1,), 0, 2)))


def entries_of(n, lot):
    """Return all entries of n for a lot."""
    found = []
    for ways in permutations(range(n), n - len(lot)):
        left = list(ways)
        found.append(tuple([-1 if place in lot else left.pop(0) for place in range(n)]))
    return found


def with_entry(table, number, entry):
    """Return a table with another entry at a number."""
    return table[:number] + (entry,) + table[number + 1:]


def drawn(n):
    """Return tables of n: drawn ones, those of deeds and of rows of deeds."""
    deeds = all_deeds(n)
    chance = random.Random(n)
    found = [still(n), deed_table(n, deeds[0]), deed_table(n, deeds[-1])] + some_tables(n, 6, 40 + n)
    for _ in range(4):
        table = still(n)
        for deed in chance.sample(deeds, 5):
            table = both(n, table, deed_table(n, deed))
        found.append(table)
    return found


class GoalTest(unittest.TestCase):
    def test_the_examples(self):
        entries = ((3, (-1, -1, 1)), (3, (0, 1, 2)), (5, (-1, 3, -1, 2, 4)), (3, (-1, -1, -1)))
        self.assertEqual([goal(n, entry) for n, entry in entries], [(0, 2), (), (0, 1), (0, 1, 2)])

    def test_entries_of_every_size(self):
        for n in (3, 4, 5):
            for lot in all_lots(n):
                for entry in entries_of(n, lot):
                    found = goal(n, entry)
                    self.assertEqual(len(found), len(lot))
                    self.assertEqual(sorted(found + tuple([way for way in entry if way >= 0])), list(range(n)))
                    self.assertEqual(found, tuple(sorted(found)))

    def test_six_places(self):
        for table in some_tables(6, 5, 41):
            for lot, entry in zip(all_lots(6), table):
                found = check_call(self, goal, n=6, entry=entry)
                self.assertEqual(found, tuple(sorted(set(range(6)) - set(entry))))
                self.assertEqual(len(found), len(lot))


class TableErrorTest(unittest.TestCase):
    def check(self, n, value, told):
        self.assertEqual(check_call(self, table_error, n=n, value=value), told, value)

    def test_the_examples(self):
        entries = ((-1, 2, 1), (-1, 1, 1), (0, 1, 2), (-1, 1, True), [-1, 1, 2], (-1, 0, 2), (-1, 1, 3))
        told = [None, ("entry", 1), ("entry", 1), ("entry", 1), ("entry", 1), ("goal", 2), ("entry", 1)]
        for entry, error in zip(entries, told):
            self.check(3, with_entry(still(3), 1, entry), error)
        self.check(3, list(still(3)), "form")
        self.check(3, still(3)[:7], "form")
        self.check(4, still(3), "form")

    def test_tables(self):
        for n in (3, 4, 5, 6):
            for table in drawn(n):
                self.check(n, table, None)

    def test_each_entry_of_three_places(self):
        lots = all_lots(3)
        table = some_tables(3, 1, 42)[0]
        goals = [goal(3, entry) for entry in table]
        for number, lot in enumerate(lots):
            right = entries_of(3, lot)
            for entry in product(range(-2, 5), repeat=3):
                value = with_entry(table, number, entry)
                if entry not in right:
                    self.assertEqual(table_error(3, value), ("entry", number), value)
                    continue
                aim = goal(3, entry)
                places = sorted([number] + [place for place in range(8) if goals[place] == aim and place != number])
                self.assertEqual(table_error(3, value), None if len(places) == 1 else ("goal", places[1]), value)

    def test_each_item_of_each_entry(self):
        for n in (4, 5, 6):
            table = some_tables(n, 1, 43)[0]
            for number, lot in enumerate(all_lots(n)):
                entry = table[number]
                for place in range(n):
                    others = [way for spot, way in enumerate(entry) if spot != place]
                    free = [way for way in range(n) if way not in others]
                    for item in (-2, -1, *range(n + 2), True, False, None, "0", (0,), [0], {}, MANY, -MANY):
                        value = with_entry(table, number, entry[:place] + (item,) + entry[place + 1:])
                        plain = type(item) is int and item == entry[place]
                        moved = place not in lot and type(item) is int and item in free
                        found = table_error(n, value)
                        if plain:
                            self.assertIsNone(found)
                        elif moved:
                            self.assertEqual(found[0], "goal")
                        else:
                            self.assertEqual(found, ("entry", number), value)

    def test_entries_of_another_form(self):
        for n in (3, 5, 6):
            table = some_tables(n, 1, 44)[0]
            for number, entry in enumerate(table):
                for value in (list(entry), entry[:-1], entry + (0,), entry + (-1,), (), (entry,), None, number, "x", {}, *VALUES):
                    if value not in entries_of(n, all_lots(n)[number]):
                        self.assertEqual(table_error(n, with_entry(table, number, value)), ("entry", number), value)

    def test_an_entry_of_another_lot(self):
        for n in (3, 4, 5):
            table = some_tables(n, 1, 45)[0]
            for number in range(len(table)):
                for other in range(len(table)):
                    if other != number:
                        self.assertEqual(table_error(n, with_entry(table, number, table[other])), ("entry", number))
            self.check(n, table[::-1], ("entry", 0))
            self.check(n, table[:1] + table[2:] + table[1:2], ("entry", 1))

    def test_bools(self):
        self.check(3, with_entry(still(3), 0, (False, 1, 2)), ("entry", 0))
        self.check(3, with_entry(still(3), 0, (0, True, 2)), ("entry", 0))
        self.check(3, with_entry(still(3), 1, (True, 1, 2)), ("entry", 1))
        self.check(3, with_entry(still(3), 1, (False, 1, 2)), ("entry", 1))
        self.check(3, with_entry(still(3), 3, (0, True, -1)), ("entry", 3))
        self.check(3, with_entry(still(3), 4, (-1, -1, True)), ("entry", 4))
        self.check(3, with_entry(still(3), 7, (-1, -1, True)), ("entry", 7))

    def test_the_first_goal_that_stands_ahead(self):
        for n in (3, 4, 5, 6):
            lots = all_lots(n)
            for number, lot in enumerate(lots):
                for other in range(number):
                    if len(lots[other]) == len(lot):
                        ways = [place for place in range(n) if place not in lots[other]]
                        entry = tuple([-1 if place in lot else ways.pop() for place in range(n)])
                        self.assertEqual(table_error(n, with_entry(still(n), number, entry)), ("goal", number))
                        ways = [place for place in range(n) if place not in lot]
                        entry = tuple([-1 if place in lots[other] else ways.pop() for place in range(n)])
                        self.assertEqual(table_error(n, with_entry(still(n), other, entry)), ("goal", number))

    def test_two_faults(self):
        table = still(3)
        twice = with_entry(with_entry(table, 1, (-1, 0, 2)), 4, (-1, -1, 1))
        self.check(3, twice, ("goal", 2))
        self.check(3, with_entry(table, 4, (-1, -1, 1)), ("goal", 5))
        self.check(3, with_entry(twice, 7, (-1, -1, 0)), ("entry", 7))
        self.check(3, with_entry(twice, 6, [0, -1, -1]), ("entry", 6))
        self.check(3, with_entry(with_entry(twice, 6, ()), 3, (0, 0, -1)), ("entry", 3))
        self.check(3, with_entry(with_entry(table, 7, None), 0, None), ("entry", 0))
        self.check(3, with_entry(twice, 0, None) + ((),), "form")
        self.check(3, list(with_entry(twice, 0, None)), "form")
        self.check(3, (None,) * 8, ("entry", 0))
        self.check(3, (None,) * 7, "form")
        self.check(3, (None,) * 9, "form")

    def test_form(self):
        for n in (3, 4, 5, 6):
            for value in VALUES:
                self.check(n, value, "form")
            for other in (3, 4, 5, 6):
                if other != n:
                    self.check(n, still(other), "form")
            self.check(n, list(still(n)), "form")
            self.check(n, still(n)[:-1], "form")
            self.check(n, still(n)[1:], "form")
            self.check(n, still(n) + ((),), "form")
            self.check(n, still(n) + still(n)[-1:], "form")
            self.check(n, (still(n),), "form")
            self.check(n, dict(enumerate(still(n))), "form")


class DeedTableTest(unittest.TestCase):
    def test_the_examples(self):
        self.assertEqual(still(3), ((0, 1, 2), (-1, 1, 2), (0, -1, 2), (0, 1, -1), (-1, -1, 2), (-1, 1, -1), (0, -1, -1),
                                    (-1, -1, -1)))
        self.assertEqual(deed_table(3, ((0,), 1, 2)), ((0, 1, 2), (-1, 2, 1), (0, -1, 2), (0, 1, -1), (-1, -1, 1),
                                                       (-1, 2, -1), (0, -1, -1), (-1, -1, -1)))
        self.assertEqual(exchange_of(3, deed_table(3, ((), 0, 2))), (2, 1, 0))
        self.assertEqual(exchange_of(3, deed_table(3, ((0,), 1, 2))), (0, 1, 2))

    def test_still(self):
        for n in (3, 4, 5, 6):
            found = check_call(self, still, n=n)
            self.assertEqual(found, table_by(n, lambda standing: standing))
            self.assertIsNone(table_error(n, found))

    def test_every_deed(self):
        for n in (3, 4, 5, 6):
            kinds = set()
            for deed in all_deeds(n):
                found = check_call(self, deed_table, n=n, deed=deed)
                self.assertEqual(found, table_by(n, lambda standing: done(standing, deed)), deed)
                self.assertIsNone(table_error(n, found))
                self.assertEqual(both(n, found, found), still(n))
                self.assertEqual(undone(n, found), found)
                kinds.add(len(deed[0]))
            self.assertEqual(kinds, set(range(n - 1)))

    def test_exchange_of(self):
        for n in (3, 4, 5, 6):
            for a, b, c in permutations(range(n), 3):
                one, other = ((), min(a, b), max(a, b)), ((), min(b, c), max(b, c))
                table = both(n, deed_table(n, one), deed_table(n, other))
                ways = {a: c, b: a, c: b}
                found = check_call(self, exchange_of, n=n, table=table)
                self.assertEqual(found, tuple([ways.get(place, place) for place in range(n)]))
            for table in drawn(n):
                self.assertEqual(exchange_of(n, table), led_back(n, led_by(n, table, tuple(range(1, n + 1)))))


def led_back(n, standing):
    """Return where the riders 1 to n lie in a standing."""
    return tuple([standing.index(rider) for rider in range(1, n + 1)])


class BothTest(unittest.TestCase):
    def test_the_examples(self):
        self.assertEqual(SOME, ((0, 1, 2), (-1, 2, 1), (2, -1, 0), (0, 1, -1), (-1, -1, 1), (-1, 0, -1), (2, -1, -1),
                                (-1, -1, -1)))
        self.assertEqual(both(3, undone(3, SOME), SOME), still(3))

    def test_lot_by_lot(self):
        for n in (3, 4, 5, 6):
            tables = drawn(n)
            for one, other in zip(tables, tables[1:] + tables[:1]):
                found = check_call(self, both, n=n, one=one, other=other)
                self.assertEqual(found, table_by(n, lambda standing: led_by(n, other, led_by(n, one, standing))))
                self.assertIsNone(table_error(n, found))

    def test_it_goes_over(self):
        for n in (3, 4, 5, 6):
            tables = drawn(n)
            for one, other, third in zip(tables, tables[1:], tables[2:]):
                self.assertEqual(both(n, both(n, one, other), third), both(n, one, both(n, other, third)))

    def test_still_changes_nothing(self):
        for n in (3, 4, 5, 6):
            for table in drawn(n):
                self.assertEqual(both(n, table, still(n)), table)
                self.assertEqual(both(n, still(n), table), table)

    def test_lots_go_to_lots_of_as_many_places_one_to_one(self):
        for n in (3, 4, 5, 6):
            lots = all_lots(n)
            for table in drawn(n):
                goals = [goal(n, entry) for entry in table]
                self.assertEqual([len(aim) for aim in goals], [len(lot) for lot in lots])
                self.assertEqual(sorted(lot_number(n, aim) for aim in goals), list(range(2 ** n)))


class UndoneTest(unittest.TestCase):
    def test_the_examples(self):
        self.assertEqual(undone(3, SOME), power(3, SOME, 5))
        self.assertEqual(power(3, SOME, -1), undone(3, SOME))

    def test_it_leads_back(self):
        for n in (3, 4, 5, 6):
            for table in drawn(n):
                found = check_call(self, undone, n=n, table=table)
                self.assertIsNone(table_error(n, found))
                self.assertEqual(both(n, table, found), still(n))
                self.assertEqual(both(n, found, table), still(n))
                self.assertEqual(undone(n, found), table)
                for standing in (tuple(range(1, n + 1)), (0,) + tuple(range(1, n)), (0,) * (n - 2) + (5, 4)):
                    self.assertEqual(led_by(n, found, led_by(n, table, standing)), standing)

    def test_of_two_tables(self):
        for n in (3, 4, 5, 6):
            tables = drawn(n)
            for one, other in zip(tables, tables[1:]):
                self.assertEqual(undone(n, both(n, one, other)), both(n, undone(n, other), undone(n, one)))


class PowerTest(unittest.TestCase):
    def check_order(self, n, table):
        """Check that the order of a table is the least number that leads all back; return it."""
        order = check_call(self, order_of, n=n, table=table)
        self.assertEqual(power(n, table, order), still(n))
        for prime in (2, 3, 5, 7, 11, 13, 17, 19):
            if order % prime == 0:
                self.assertNotEqual(power(n, table, order // prime), still(n))
        left = order
        for prime in (2, 3, 5, 7, 11, 13, 17, 19, 23, 29, 31, 37, 41, 43, 47, 53, 59):
            while left % prime == 0:
                left //= prime
        self.assertEqual(left, 1)
        return order

    def test_the_examples(self):
        self.assertEqual((order_of(3, SOME), order_of(3, still(3)), order_of(5, deed_table(5, ((0, 3), 1, 2)))), (6, 1, 2))
        self.assertEqual(power(3, SOME, 6), still(3))
        self.assertEqual(power(3, SOME, MANY), ((0, 1, 2), (-1, 1, 2), (0, -1, 2), (0, 1, -1), (-1, -1, 1), (-1, 0, -1),
                                                (2, -1, -1), (-1, -1, -1)))

    def test_done_one_behind_another(self):
        for n in (3, 4, 5, 6):
            for table in drawn(n):
                back = undone(n, table)
                ahead = behind = still(n)
                for k in range(20):
                    self.assertEqual(check_call(self, power, n=n, table=table, k=k), behind)
                    self.assertEqual(check_call(self, power, n=n, table=table, k=-k), ahead)
                    behind, ahead = both(n, behind, table), both(n, ahead, back)

    def test_the_order_of_tables_of_three_places_step_by_step(self):
        for table in some_tables(3, 100, 46) + drawn(3):
            many, behind = 1, table
            while behind != still(3):
                many, behind = many + 1, both(3, behind, table)
            self.assertEqual(self.check_order(3, table), many)

    def test_the_order_and_its_multiples(self):
        for n in (3, 4, 5, 6):
            for table in drawn(n):
                order = self.check_order(n, table)
                for k in (0, order, 2 * order, 7 * order, -order, -5 * order, order * (MANY // order), -order * (MANY // order)):
                    self.assertEqual(power(n, table, k), still(n))
                for k in (1, 2, 3, 10):
                    self.assertEqual(power(n, table, k) == still(n), k % order == 0)
                    for many in (order + k, k - order, 3 * order + k):
                        self.assertEqual(power(n, table, many), power(n, table, k))

    def test_greatest_numbers(self):
        for n in (3, 4, 5, 6):
            for table in drawn(n):
                order = order_of(n, table)
                for k in (MANY, -MANY, MANY - 1, 1 - MANY, MANY // 3):
                    found = check_call(self, power, n=n, table=table, k=k)
                    self.assertIsNone(table_error(n, found))
                    self.assertEqual(found, power(n, table, k % order))
                    self.assertEqual(found, undone(n, power(n, table, -k)))

    def test_powers_together(self):
        chance = random.Random(47)
        for n in (3, 4, 5, 6):
            for table in drawn(n):
                for _ in range(5):
                    k, h = chance.randint(-MANY // 2, MANY // 2), chance.choice((chance.randint(-9, 9), chance.randint(0, MANY // 2)))
                    self.assertEqual(both(n, power(n, table, k), power(n, table, h)), power(n, table, k + h))
                    self.assertEqual(both(n, power(n, table, h), power(n, table, k)), power(n, table, k + h))

    def test_drawn_tables_of_six_places(self):
        with within(20):
            orders = [self.check_order(6, table) for table in some_tables(6, 40, 48)]
            self.assertGreater(max(orders), 10 ** 5)
            self.assertGreater(len(set(orders)), 20)
            for table in some_tables(6, 100, 49):
                self.assertEqual(both(6, power(6, table, MANY), power(6, table, -MANY)), still(6))

    def test_a_great_order(self):
        # Where riders are turned, too, so many lots going round come back as they were behind as many rounds as riders.
        table = turning(6, ((1, 5, True), (2, 8, True), (2, 7, False), (3, 9, True), (3, 11, False), (4, 13, False)))
        self.assertIsNone(table_error(6, table))
        with within(20):
            order = self.check_order(6, table)
            self.assertEqual(order, 25 * 32 * 7 * 27 * 11 * 13)
            for k in (order - 1, order + 1, order // 2, MANY, -MANY):
                self.assertEqual(both(6, power(6, table, k), power(6, table, order - k % order)), still(6))
                self.assertEqual(power(6, table, k) == still(6), False)

    def test_holes_going_round(self):
        holes = turning(5, ((4, 5, False),))
        self.assertEqual(self.check_order(5, holes), 5)
        self.assertEqual(self.check_order(5, both(5, deed_table(5, ((), 0, 1)), turning(5, ((0, 1, True),)))), 4)
        self.assertEqual(self.check_order(5, turning(5, ((4, 3, False), (4, 2, False)))), 6)
        self.assertEqual(self.check_order(5, turning(5, ((4, 5, True), (0, 1, True)))), 5)
        self.assertEqual(self.check_order(5, turning(5, ((3, 10, True),))), 20)


def turning(n, rounds):
    """Return the table that leads lots round, for each triple of rounds so many of a size; riders keep their order.

    Where the triple tells so, each rider goes where the next one would have gone, once on a round.
    """
    lots = all_lots(n)
    entries = list(still(n))
    left = {size: [lot for lot in lots if len(lot) == size] for size in range(n + 1)}
    for size, many, turned in rounds:
        ring = [left[size].pop(0) for _ in range(many)]
        for lot, aim in zip(ring, ring[1:] + ring[:1]):
            free = [place for place in range(n) if place not in aim]
            if turned and lot == ring[-1]:
                free = free[1:] + free[:1]
            entries[lots.index(lot)] = tuple([-1 if place in lot else free.pop(0) for place in range(n)])
    return tuple(entries)
