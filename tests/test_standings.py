"""[A9], [A10], and what [A11] says of the texts of standings."""

import random
import unittest
from itertools import product

from keyriders.errors import BadText
from keyriders.lots import lot_error
from keyriders.standings import keys_of, standing_error
from keyriders.standingtexts import read_standing, standing_text
from tests.helper import VALUES, check_call, check_raise, raised


def some_standings():
    """Return standings of each n: with keys alone, with none, and mixed ones."""
    chance = random.Random(5)
    found = []
    for n in range(3, 25):
        riders = list(range(1, 100))
        found += [(0,) * n, tuple(range(1, n + 1)), tuple(range(99, 99 - n, -1)), (0,) * (n - 1) + (99,)]
        for _ in range(10):
            chance.shuffle(riders)
            found.append(tuple(chance.choice((0, rider)) for rider in riders[:n]))
    return found


class StandingErrorTest(unittest.TestCase):
    def test_the_examples(self):
        self.assertIsNone(standing_error(5, (0, 7, 0, 9, 99)))
        self.assertIsNone(standing_error(5, (0, 0, 0, 0, 0)))
        self.assertEqual(standing_error(5, (0, 7, 0, 9)), "form")
        self.assertEqual(standing_error(5, [0, 7, 0, 9, 99]), "form")
        self.assertEqual(standing_error(3, (7, 7, 100)), ("item", 2))
        self.assertEqual(standing_error(3, (7, 0, 7)), ("twice", 2))
        self.assertEqual(standing_error(3, (0, True, 0)), ("item", 1))
        self.assertEqual(standing_error(3, (1, -1, 1)), ("item", 1))

    def test_none_just_for_standings(self):
        for value in product((-1, 0, 1, 2, 99, 100), repeat=3):
            riders = [item for item in value if item > 0]
            right = min(value) >= 0 and max(value) <= 99 and len(riders) == len(set(riders))
            self.assertEqual(standing_error(3, value) is None, right, value)

    def test_standings_of_each_n(self):
        for standing in some_standings():
            n = len(standing)
            self.assertIsNone(check_call(self, standing_error, n=n, value=standing))
            self.assertEqual(standing_error(n, standing + (0,)), "form")
            self.assertEqual(standing_error(n, standing[:-1]), "form")
            self.assertEqual(standing_error(n, list(standing)), "form")
            if n > 3:
                self.assertEqual(standing_error(n - 1, standing), "form")
            for spot in range(n):
                for item in (-1, 100, True, False, None, "0", [0], (0,), {}, 10 ** 400):
                    value = standing[:spot] + (item,) + standing[spot + 1:]
                    self.assertEqual(standing_error(n, value), ("item", spot), value)

    def test_a_rider_twice_at_each_spot(self):
        for n in range(3, 25):
            riders = tuple(range(1, n + 1))
            for spot in range(1, n):
                for ahead in (0, spot - 1):
                    value = riders[:spot] + (riders[ahead],) + riders[spot + 1:]
                    self.assertEqual(standing_error(n, value), ("twice", spot), value)

    def test_the_first_fault_in_order(self):
        for n, value, told in (
            (4, (7, 7, 0), "form"), (3, (7, 7, 100, 0), "form"), (3, [7, 7, 100], "form"),
            (4, (7, 7, 0, -1), ("item", 3)), (4, (True, 7, 7, 100), ("item", 0)), (4, (0, 100, -1, 0), ("item", 1)),
            (4, (7, 8, 8, 7), ("twice", 2)), (4, (8, 7, 8, 7), ("twice", 2)), (4, (7, 7, 8, 8), ("twice", 1)),
            (4, (7, 7, 7, 7), ("twice", 1)), (5, (0, 7, 0, 0, 7), ("twice", 4)), (3, (1, True, 1), ("item", 1)),
        ):
            self.assertEqual(check_call(self, standing_error, n=n, value=value), told)

    def test_values_of_all_kinds(self):
        for value in VALUES:
            if not isinstance(value, tuple) or len(value) != 5:
                self.assertEqual(check_call(self, standing_error, n=5, value=value), "form")
            if type(value) is not int or not 0 <= value <= 99:
                self.assertEqual(standing_error(3, (0, value, 0)), ("item", 1))


class KeysOfTest(unittest.TestCase):
    def test_the_examples(self):
        self.assertEqual(keys_of((0, 7, 0, 9, 99)), (0, 2))
        self.assertEqual(keys_of((3, 2, 1)), ())
        self.assertEqual(keys_of((0, 0, 0, 0)), (0, 1, 2, 3))

    def test_the_lot_of_all_places_with_a_key(self):
        for standing in some_standings():
            lot = check_call(self, keys_of, standing=standing)
            self.assertIsNone(lot_error(len(standing), lot))
            for place, item in enumerate(standing):
                self.assertEqual(place in lot, item == 0)


class StandingTextTest(unittest.TestCase):
    def test_the_examples(self):
        self.assertEqual(standing_text((0, 7, 0, 9, 99)), "0 7 0 9 99")
        self.assertEqual(read_standing(5, "0 7 0 9 99"), (0, 7, 0, 9, 99))
        self.assertEqual(read_standing(3, "12 0 1"), (12, 0, 1))
        for n, value in ((3, "7 0 7"), (3, "7 0 01"), (4, "7 0 1")):
            check_raise(self, read_standing, BadText, {}, n=n, value=value)

    def test_there_and_back(self):
        texts = {}
        for standing in some_standings():
            text = check_call(self, standing_text, standing=standing)
            self.assertEqual(text, " ".join(map(str, standing)))
            self.assertEqual(check_call(self, read_standing, n=len(standing), value=text), standing)
            self.assertEqual(texts.setdefault(text, standing), standing)
            for n in range(3, 25):
                if n != len(standing):
                    self.assertIsInstance(raised(read_standing, n, text), BadText)

    def test_all_numbers(self):
        for item in range(100):
            self.assertEqual(read_standing(3, f"0 {item} 0"), (0, item, 0))
            for word in (f"0{item}", f"+{item}", f"-{item}", f"{item}.", f"{item}_", f"_{item}", f"{item + 100}"):
                for value in (f"{word} 0 0", f"0 {word} 0", f"0 0 {word}"):
                    self.assertIsInstance(raised(read_standing, 3, value), BadText, value)

    def test_texts_that_are_wrong(self):
        for value in (
            "", " ", "  ", "0", "0 0", "0 0 0 0", " 0 0 0", "0 0 0 ", "0  0 0", "0 0  0", "0\n0 0", "0 0 0\n", "\n0 0 0",
            "0\t0\t0", "0,0,0", "0 0 100", "100 0 0", "00 0 0", "0 0 00", "0 000 0", "007 0 0", "0 7 7", "7 7 0", "99 0 99",
            "0 -1 0", "0 -0 0", "0 +1 0", "0 1_0 0", "0 1.0 0", "0 1e1 0", "0 x 0", "0 0x1 0", "0 a 0", "(0, 0, 0)",
            "0 0 0 x", "none", "0 0" + " " * 3000 + "0", "0 \u0663 0", "0 \u00b2 0", "\uff11 0 0", "0\u00a00 0",
            "1" * 20000, "0 0 " + "1" * 19996, "0 0 " + "0" * 19996, "1" * 5000 + " 0 0", "0 " + "9" * 5000 + " 0",
            " " * 20000, "0 " * 10000, "1 0 0 " * 3333,
        ):
            check_raise(self, read_standing, BadText, {}, n=3, value=value)

    def test_each_sign_left_out_put_in_changed_and_doubled(self):
        for standing in ((0, 7, 0, 9, 99), (10, 0, 0, 1, 0), (1, 2, 3), (0, 0, 0), (12, 34, 56, 78)):
            text = standing_text(standing)
            for value in _spoilt(text):
                self.assertEqual(_read_or_none(len(standing), value), _meant(len(standing), value), value)

    def test_every_value_that_is_no_string(self):
        for value in VALUES + ((0, 0, 0), [0, 0, 0], ("0 0 0",), ["0", "0", "0"], {"0 0 0": 0}):
            if not isinstance(value, str):
                check_raise(self, read_standing, BadText, {}, n=3, value=value)


def _read_or_none(n, value):
    try:
        return read_standing(n, value)
    except BadText:
        return None


def _spoilt(text):
    """Return the texts that come of a text by one sign left out, put in, changed or doubled."""
    found = []
    for spot in range(len(text) + 1):
        for sign in "01789 \n+-_.a,":
            found += [text[:spot] + sign + text[spot:], text[:spot] + sign + text[spot + 1:]]
        found += [text[:spot] + text[spot + 1:], text[:spot] + text[spot:spot + 1] + text[spot:]]
    return found


# Each word stands for the one number of which it is the text.
WORDS = {str(item): item for item in range(100)}


def _meant(n, value):
    """Return the standing of n of which value is the text, None if there is none."""
    words = value.split(" ")
    if len(words) != n or any(word not in WORDS for word in words):
        return None
    riders = [word for word in words if word != "0"]
    return tuple(WORDS[word] for word in words) if len(set(riders)) == len(riders) else None
