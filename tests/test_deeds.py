"""[B1] and [B2]."""

import unittest
from itertools import product

from keyriders.deeds import deed_error, done
from keyriders.lots import all_lots
from keyriders.standings import standing_error
from tests.helper import VALUES, check_call


def all_deeds(n):
    """Return all deeds of n."""
    return [(lot, a, b) for lot in all_lots(n) for b in range(n) for a in range(b) if a not in lot and b not in lot]


def behind(standing, deed):
    """Return the standing behind a deed, told by where each place gets what it holds from."""
    lot, a, b = deed
    if {standing[place] for place in lot} <= {0}:
        return tuple(standing[{a: b, b: a}.get(place, place)] for place in range(len(standing)))
    return standing


class DeedErrorTest(unittest.TestCase):
    def test_the_examples(self):
        values = (((0, 3), 1, 2), ((), 0, 4), ((0, 3), 2, 1), ((0, 3), 1, 3), ((3, 0), 1, 2), ((0,), 1),
                  ([0], 1, 2), ((0,), 1, True))
        told = [None, None, "places", "places", "lot", "form", "lot", "places"]
        self.assertEqual([deed_error(5, value) for value in values], told)

    def test_just_deeds_of_small_n(self):
        for n in (3, 4, 5):
            deeds = set(all_deeds(n))
            for lot, a, b in product(all_lots(n), range(-1, n + 2), range(-1, n + 2)):
                value = (lot, a, b)
                self.assertEqual(deed_error(n, value), None if value in deeds else "places", value)
            for lot in ((n,), (-1,), (1, 0), (0, 0), (0, n), (True,), (None,), ((),), [0], 0, None, "0", {}):
                for a, b in product(range(-1, n + 1), repeat=2):
                    self.assertEqual(deed_error(n, (lot, a, b)), "lot", (lot, a, b))

    def test_each_n(self):
        for n in range(3, 25):
            kind = n - 2
            self.assertIsNone(deed_error(n, (tuple(range(kind)), n - 2, n - 1)))
            self.assertIsNone(deed_error(n, (tuple(range(2, n)), 0, 1)))
            self.assertIsNone(deed_error(n, ((), 0, n - 1)))
            self.assertEqual(deed_error(n, ((), 0, n)), "places")
            self.assertEqual(deed_error(n, ((), n, n + 1)), "places")
            self.assertEqual(deed_error(n, ((), -1, 0)), "places")
            self.assertEqual(deed_error(n, ((), -2, -1)), "places")
            self.assertEqual(deed_error(n, ((n,), 0, 1)), "lot")
            self.assertEqual(deed_error(n, (tuple(range(n)), 0, 1)), "places")
            self.assertEqual(deed_error(n, (tuple(range(n - 1)), n - 1, n)), "places")

    def test_places_of_all_kinds(self):
        for value in VALUES + (1.0, "1"):
            if type(value) is not int or not 0 <= value < 5:
                self.assertEqual(deed_error(5, ((), value, 3)), "places", value)
                self.assertEqual(deed_error(5, ((), 0, value)), "places", value)
                self.assertEqual(deed_error(5, ((2,), value, value)), "places", value)

    def test_the_first_fault_is_told(self):
        for value, told in (
            ([(0,), 1, 2], "form"), (((0,), 1, 2, 3), "form"), (((3, 0), 2), "form"), ((), "form"), (((0,),), "form"),
            (([0], 2, 1), "lot"), (((0, 5), 0, 0), "lot"), (((0, True), True, False), "lot"), ((None, None, None), "lot"),
            (((0,), 0, 1), "places"), (((1,), 0, 1), "places"), (((0, 1), 0, 1), "places"), (((), 1, 1), "places"),
            (((), 2, 1), "places"), (((), False, True), "places"), (((), False, 1), "places"), (((), 0, True), "places"),
            (((), [1], 2), "places"), (((), 1, (2,)), "places"), (((), 0, 5), "places"), (((), -1, 5), "places"),
        ):
            self.assertEqual(check_call(self, deed_error, n=5, value=value), told, value)

    def test_form_for_what_is_no_triple(self):
        for value in VALUES:
            if not isinstance(value, tuple) or len(value) != 3:
                self.assertEqual(check_call(self, deed_error, n=5, value=value), "form")
        for value in ((0, 1, 2), ([0], 1, 2), ({}, 1, 2), VALUES[-1]):
            self.assertEqual(deed_error(5, value), "lot", value)

    def test_one_deed_for_other_n(self):
        deed = ((0, 3), 1, 4)
        self.assertEqual([deed_error(n, deed) for n in (3, 4, 5, 24)], ["lot", "places", None, None])


class DoneTest(unittest.TestCase):
    def test_the_examples(self):
        self.assertEqual(done((0, 7, 8, 9, 6), ((0,), 1, 2)), (0, 8, 7, 9, 6))
        self.assertEqual(done((0, 0, 8, 9, 6), ((0,), 1, 2)), (0, 8, 0, 9, 6))
        self.assertEqual(done((5, 7, 8, 9, 6), ((0,), 1, 2)), (5, 7, 8, 9, 6))
        self.assertEqual(done((5, 7, 8, 9, 6), ((), 0, 4)), (6, 7, 8, 9, 5))

    def test_all_deeds_at_all_lots_of_keys(self):
        for n in (3, 4, 5):
            for keys in all_lots(n):
                standing = tuple([0 if place in keys else 9 - place for place in range(n)])
                for deed in all_deeds(n):
                    self.assertEqual(done(standing, deed), behind(standing, deed), (standing, deed))
                    self.assertIsNone(standing_error(n, done(standing, deed)))
                    self.assertEqual(done(done(standing, deed), deed), standing)

    def test_how_it_is_called(self):
        for standing in ((0, 7, 8, 9), (0, 0, 8, 9), (5, 7, 8, 9), (0, 0, 0, 0), (0, 0, 0, 7)):
            for deed in all_deeds(4):
                found = check_call(self, done, standing=standing, deed=deed)
                self.assertIs(type(found), tuple)
                self.assertEqual(found, behind(standing, deed))

    def test_one_place_of_the_lot_holds_a_rider(self):
        deed = ((0, 2, 4), 1, 3)
        self.assertEqual(done((0, 7, 0, 9, 0), deed), (0, 9, 0, 7, 0))
        for place in (0, 2, 4):
            standing = tuple([1 if spot == place else item for spot, item in enumerate((0, 7, 0, 9, 0))])
            self.assertEqual(done(standing, deed), standing)

    def test_the_kind_none_always_exchanges(self):
        for standing in ((1, 2, 3, 4), (0, 2, 3, 4), (0, 2, 3, 0), (0, 0, 0, 0), (1, 0, 0, 0)):
            a, b, c, d = standing
            self.assertEqual(done(standing, ((), 0, 3)), (d, b, c, a))
            self.assertEqual(done(standing, ((), 1, 2)), (a, c, b, d))

    def test_many_places(self):
        lot = tuple(range(1, 23))
        standing = (50,) + (0,) * 22 + (60,)
        self.assertEqual(done(standing, (lot, 0, 23)), (60,) + (0,) * 22 + (50,))
        riders = tuple(range(1, 25))
        self.assertEqual(done(riders, (lot, 0, 23)), riders)
        self.assertEqual(done(riders, ((), 0, 23)), (24,) + riders[1:23] + (1,))
