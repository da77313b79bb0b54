"""The rows of the interface about bounds and errors."""

import unittest

from keyriders import bounds, errors
from tests.helper import VALUES

BOUNDS = {
    "MAX_PLACES": 24, "MAX_TABLE": 6, "MAX_RIDER": 99, "MAX_SIZED": 10, "MAX_TERMS": 400, "MAX_DEEP": 12,
    "MAX_TIMES": 10 ** 30, "MAX_STEPS": 5000, "MAX_LENGTH": 10 ** 300, "MAX_NAMES": 6, "BATCH": 8, "MAX_EDITS": 40,
}
PLAIN = ("Unfit", "BadText", "BadBatch", "TooManyEdits", "NothingToUndo", "NothingToRedo")
WITH_ARGUMENT = {
    "BadProgram": "error", "Barred": "paper", "TooMany": "limit", "NoName": "given", "Taken": "given",
    "Rejected": "place", "NoVersion": "given",
}


class BoundsTest(unittest.TestCase):
    def test_each_bound_has_its_value(self):
        for name, value in BOUNDS.items():
            self.assertEqual(getattr(bounds, name), value, name)
            self.assertIs(type(getattr(bounds, name)), int, name)

    def test_there_are_no_other_bounds(self):
        self.assertEqual({name for name in vars(bounds) if not name.startswith("_")}, set(BOUNDS))


class ErrorsTest(unittest.TestCase):
    def test_what_stands_directly_above_each(self):
        self.assertEqual(errors.RidersError.__bases__, (ValueError,))
        for name in (*PLAIN, *WITH_ARGUMENT):
            self.assertEqual(getattr(errors, name).__bases__, (errors.RidersError,), name)

    def test_each_is_defined_here_and_there_are_no_others(self):
        found = {name for name, value in vars(errors).items() if isinstance(value, type)}
        self.assertEqual(found, {"RidersError", *PLAIN, *WITH_ARGUMENT})
        for name in found:
            self.assertEqual(getattr(errors, name).__module__, "keyriders.errors")

    def test_those_without_arguments(self):
        for name in PLAIN:
            kind = getattr(errors, name)
            with self.assertRaises(kind) as caught:
                raise kind()
            self.assertIs(type(caught.exception), kind)

    def test_an_argument_is_kept_as_passed_by_place_and_by_name(self):
        for name, field in WITH_ARGUMENT.items():
            kind = getattr(errors, name)
            for value in VALUES:
                for error in (kind(value), kind(**{field: value})):
                    self.assertIs(getattr(error, field), value, name)

    def test_an_argument_is_kept_when_raised_and_caught_from_above(self):
        for name, field in WITH_ARGUMENT.items():
            value = [name]
            with self.assertRaises(errors.RidersError) as caught:
                raise getattr(errors, name)(value)
            self.assertIs(getattr(caught.exception, field), value)

    def test_an_argument_is_asked_for_and_none_further(self):
        for name, field in WITH_ARGUMENT.items():
            kind = getattr(errors, name)
            for args, named in (((), {}), ((1, 2), {}), ((), {"other": 1}), ((1,), {field: 1})):
                with self.assertRaises(TypeError):
                    kind(*args, **named)
