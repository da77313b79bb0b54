"""The helpers that the modules share."""

import unittest

from keyriders.values import is_between, is_tuple_of, least_kind, read_number
from tests.helper import VALUES


class ValuesTest(unittest.TestCase):
    def test_is_between(self):
        for value in VALUES + (1.0, 2, 3, 4):
            right = type(value) is int and 1 <= value <= 3
            self.assertIs(is_between(value, 1, 3), right, value)

    def test_is_tuple_of(self):
        for value in VALUES:
            for size in range(4):
                self.assertIs(is_tuple_of(value, size), type(value) is tuple and len(value) == size, value)

    def test_read_number(self):
        for most in (0, 5, 9, 10, 99, 399, 10 ** 30):
            for number in (0, 1, 5, 6, 9, 10, 11, 99, 100, 398, 399, 400, 999, 10 ** 30 - 1, 10 ** 30, 10 ** 30 + 1, 10 ** 31):
                self.assertEqual(read_number(str(number), most), number if number <= most else None)
                for text in (f"0{number}", f"+{number}", f"-{number}", f" {number}", f"{number} ", f"{number}\n", f"{number}_0"):
                    self.assertIsNone(read_number(text, most), text)
            for text in ("", " ", "x", "00", "1.", "\u0663", "\u00b2", "9" * 20000, "0" * 20000):
                self.assertIsNone(read_number(text, most), text)

    def test_least_kind(self):
        for kinds, told in (((0,), None), ((0, 1), 1), ((1,), 1), ((0, 3), 3), ((2, 3, 4), 2), ((0, 2, 5), 2), ((8,), 8)):
            self.assertEqual(least_kind(kinds), told)
