"""[A5] to [A8], and what [A11] says of lots."""

import unittest
from itertools import combinations
from math import comb

from keyriders.errors import TooMany, Unfit
from keyriders.lots import all_lots, lot_at, lot_error, lot_number, lots_of
from tests.helper import VALUES, check_call, check_raise, within


class LotErrorTest(unittest.TestCase):
    def test_the_examples(self):
        values = ((), (0, 4), [0, 4], (0, 5), (2, 2), (0, True), (3, 1, 9))
        told = [None, None, "form", ("item", 1), ("item", 1), ("item", 1), ("item", 1)]
        self.assertEqual([lot_error(5, value) for value in values], told)

    def test_none_just_for_lots(self):
        for n in range(3, 7):
            lots = {lot for size in range(n + 1) for lot in combinations(range(n), size)}
            for size in range(4):
                for value in _tuples(range(-1, n + 1), size):
                    self.assertEqual(lot_error(n, value) is None, value in lots, (n, value))

    def test_all_places_of_each_n_and_one_beyond(self):
        for n in range(3, 25):
            places = tuple(range(n))
            self.assertIsNone(lot_error(n, places))
            self.assertIsNone(lot_error(n, (n - 1,)))
            self.assertEqual(lot_error(n, (n,)), ("item", 0))
            self.assertEqual(lot_error(n, places + (n,)), ("item", n))
            self.assertEqual(lot_error(n, places + (n - 1,)), ("item", n))
            self.assertEqual(lot_error(n, (-1,) + places), ("item", 0))

    def test_form_for_what_is_no_tuple(self):
        for value in VALUES:
            if not isinstance(value, tuple):
                self.assertEqual(lot_error(5, value), "form", value)

    def test_items_of_all_kinds(self):
        for item in VALUES + (-7, 1.0, "1"):
            if type(item) is int and 1 < item < 5:
                continue
            self.assertEqual(lot_error(5, (0, 1, item)), ("item", 2), item)
            self.assertEqual(lot_error(5, (0, 1, item, 2)), ("item", 2), item)

    def test_the_first_wrong_item_is_told(self):
        for value, spot in (
            ((False, 1), 0), ((0, True, 7), 1), ((1, 0, -1), 1), ((0, 2, 1, 9), 2), ((0, 1, 2, 2), 3),
            ((5, 5, 5), 0), ((4, 3), 1), ((0, 1, 3, 2, 4), 3), ((None, None), 0), ((0, [1], 2), 1),
        ):
            self.assertEqual(lot_error(5, value), ("item", spot), value)

    def test_places_of_more_than_one_n(self):
        self.assertEqual([lot_error(n, (0, 3, 23)) for n in (3, 4, 23, 24)],
                         [("item", 1), ("item", 2), ("item", 2), None])

    def test_by_place_and_by_name(self):
        for value, told in (((0, 4), None), ([0, [4]], "form"), ((0, 5), ("item", 1)), ({"a": []}, "form")):
            self.assertEqual(check_call(self, lot_error, n=5, value=value), told)
        for value in VALUES:
            check_call(self, lot_error, n=24, value=value)


class LotsTest(unittest.TestCase):
    def test_the_examples(self):
        self.assertEqual(lots_of(4, 2), ((0, 1), (0, 2), (0, 3), (1, 2), (1, 3), (2, 3)))
        self.assertEqual(lots_of(4, 0), ((),))
        self.assertEqual(all_lots(3), ((), (0,), (1,), (2,), (0, 1), (0, 2), (1, 2), (0, 1, 2)))
        check_raise(self, all_lots, TooMany, {"limit": 6}, n=7)

    def test_the_lots_of_each_size_ascending(self):
        for n in range(3, 13):
            for size in range(n + 1):
                lots = check_call(self, lots_of, n=n, size=size)
                self.assertIs(type(lots), tuple)
                self.assertEqual(lots, tuple(combinations(range(n), size)))
                self.assertEqual(len(lots), comb(n, size))
                self.assertEqual(list(lots), sorted(lots))
                self.assertEqual([lot_error(n, lot) for lot in lots], [None] * len(lots))

    def test_none_and_all(self):
        for n in range(3, 13):
            self.assertEqual(lots_of(n, 0), ((),))
            self.assertEqual(lots_of(n, n), (tuple(range(n)),))

    def test_all_lots_are_those_of_each_size_one_behind_another(self):
        for n in range(3, 7):
            rows = ()
            for size in range(n + 1):
                rows += lots_of(n, size)
            lots = check_call(self, all_lots, n=n)
            self.assertIs(type(lots), tuple)
            self.assertEqual(lots, rows)
            self.assertEqual(len(lots), 2 ** n)

    def test_too_many_above_six(self):
        for n in range(7, 25):
            check_raise(self, all_lots, TooMany, {"limit": 6}, n=n)


class LotNumberTest(unittest.TestCase):
    def test_the_examples(self):
        self.assertEqual((lot_number(5, (1, 3)), lot_number(5, (0, 1, 2, 4))), (11, 27))
        self.assertEqual((lot_at(5, 15), lot_at(5, 31)), ((3, 4), (0, 1, 2, 3, 4)))
        self.assertEqual((lot_number(24, (23,)), lot_at(24, 25)), (24, (0, 1)))
        self.assertEqual(lot_at(24, 2 ** 24 - 2), tuple(range(1, 24)))
        check_raise(self, lot_at, Unfit, {}, n=5, number=32)

    def test_there_and_back_for_all_lots(self):
        for n in range(3, 11):
            lots = [lot for size in range(n + 1) for lot in combinations(range(n), size)]
            self.assertEqual([lot_number(n, lot) for lot in lots], list(range(2 ** n)))
            self.assertEqual([lot_at(n, number) for number in range(2 ** n)], lots)

    def test_what_is_returned_and_how_it_is_called(self):
        for lot in all_lots(5):
            number = check_call(self, lot_number, n=5, lot=lot)
            self.assertIs(type(number), int)
            self.assertEqual(check_call(self, lot_at, n=5, number=number), lot)

    def test_the_borders_of_sizes(self):
        for n in range(3, 25):
            ahead = 0
            for size in range(n + 1):
                first, last = tuple(range(size)), tuple(range(n - size, n))
                self.assertEqual((lot_number(n, first), lot_at(n, ahead)), (ahead, first))
                ahead += comb(n, size)
                self.assertEqual((lot_number(n, last), lot_at(n, ahead - 1)), (ahead - 1, last))
            self.assertEqual(ahead, 2 ** n)

    def test_lots_of_all_sizes_of_many_places(self):
        with within(20):
            for size in range(25):
                for lot in _spread(24, size):
                    number = lot_number(24, lot)
                    self.assertEqual(lot_at(24, number), lot)
                    self.assertEqual(sum(comb(24, s) for s in range(size)) <= number, True)
                    self.assertEqual(number < sum(comb(24, s) for s in range(size + 1)), True)

    def test_neighbours_of_many_places_stand_in_order(self):
        for start in range(0, 2 ** 24 - 20, 104729):
            lots = [lot_at(24, number) for number in range(start, start + 20)]
            self.assertEqual(lots, sorted(lots, key=lambda lot: (len(lot), lot)))
            self.assertEqual(len(set(lots)), 20)
            self.assertEqual([lot_error(24, lot) for lot in lots], [None] * 20)

    def test_a_lot_with_fewer_places_has_the_lesser_number(self):
        for n in range(3, 7):
            for one in all_lots(n):
                for other in all_lots(n):
                    if len(one) < len(other):
                        self.assertLess(lot_number(n, one), lot_number(n, other))

    def test_unfit_numbers(self):
        for n in range(3, 25):
            for number in (-1, -2, -2 ** n, -10 ** 400, 2 ** n, 2 ** n + 1, 2 ** (n + 1), 10 ** 400):
                check_raise(self, lot_at, Unfit, {}, n=n, number=number)
            lot_at(n, 2 ** n - 1)
            lot_at(n, 0)


def _tuples(items, size):
    """Return all tuples of so many of the items, also with one more than once."""
    rows = [()]
    for _ in range(size):
        rows = [row + (item,) for row in rows for item in items]
    return rows


def _spread(n, size):
    """Return some lots of n with so many places: rows in one piece, rows with gaps, and mixed ones."""
    lots = [tuple(range(low, low + size)) for low in range(n - size + 1)]
    for step in (5, 7, 11, 13):
        lots.append(tuple(sorted({spot * step % n for spot in range(size)})))
    for seed in range(40):
        order = sorted(range(n), key=lambda place: (place * place * 37 + (seed + 3) * place * 101) % 257)
        lots.append(tuple(sorted(order[:size])))
    return [lot for lot in lots if len(lot) == size]
