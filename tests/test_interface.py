"""Each function of the interface stands in its file, with the arguments that are told."""

import importlib
import inspect
import unittest

FUNCTIONS = {
    "lots": {
        "lot_error": ["n", "value"], "lots_of": ["n", "size"], "all_lots": ["n"], "lot_number": ["n", "lot"],
        "lot_at": ["n", "number"],
    },
    "standings": {"standing_error": ["n", "value"], "keys_of": ["standing"]},
    "standingtexts": {"standing_text": ["standing"], "read_standing": ["n", "value"]},
    "deeds": {"deed_error": ["n", "value"], "done": ["standing", "deed"]},
    "programs": {
        "program_error": ["n", "value"], "length": ["program"], "kinds_of": ["program"], "joined": ["one", "other"],
        "backward": ["program"],
    },
    "runs": {"run": ["n", "program", "standing"]},
    "programtexts": {"program_text": ["program"], "read_program": ["n", "value"]},
    "tables": {
        "goal": ["n", "entry"], "table_error": ["n", "value"], "still": ["n"], "deed_table": ["n", "deed"],
        "exchange_of": ["n", "table"], "both": ["n", "one", "other"], "undone": ["n", "table"],
        "power": ["n", "table", "k"], "order_of": ["n", "table"],
    },
    "doing": {"table_of": ["n", "program"], "led": ["n", "table", "standing"]},
    "signs": {
        "signs_of": ["n", "table"], "kind_signs": ["n", "k"], "program_signs": ["n", "program"], "kinds_in": ["n", "row"],
    },
    "sizes": {"all_count": ["n"], "table_count": ["n", "kinds"]},
    "rings": {
        "ring_program": ["n", "kinds", "lot", "a", "b", "d"], "pair_program": ["n", "kinds", "lot", "a", "b", "c", "d"],
    },
    "writing": {"written": ["n", "kinds", "table"]},
    "barring": {"paper_holds": ["n", "kinds", "table", "value"]},
    "parttables": {
        "part_error": ["n", "value"], "told_signs": ["n", "part"], "finished": ["n", "kinds", "part"],
        "part_holds": ["n", "kinds", "part", "value"], "finish_count": ["n", "kinds", "part"],
    },
    "blanks": {
        "goals_of": ["n", "table"], "blank_written": ["n", "kinds", "goals"], "blank_holds": ["n", "kinds", "goals", "value"],
    },
    "asking": {"asked": ["n", "table"], "fewest_kinds": ["n", "table"], "why_needed": ["n", "table", "k"]},
}
METHODS = {
    ("benches", "Bench"): {
        "__init__": ["n"], "__len__": [], "__getitem__": ["name"], "__iter__": [], "__eq__": ["other"], "add": ["name", "program"],
        "drop": ["name"], "call": ["name", "other"], "put": ["name", "spot", "term"], "more": ["name", "term"], "batch": ["edits"],
        "table": ["name"], "led": ["name", "standing"], "alike": ["name", "other"], "undo": [], "redo": [], "at": ["version"],
        "copy": [], "attempt": ["work"],
    },
    ("shells", "Shell"): {"__init__": ["n"], "say": ["line"]},
}
PROPERTIES = {("benches", "Bench"): ["n", "shelf", "version", "log", "made"]}


class InterfaceTest(unittest.TestCase):
    def test_each_function_is_defined_in_its_file_with_its_arguments(self):
        for name, functions in FUNCTIONS.items():
            module = importlib.import_module("keyriders." + name)
            for function, arguments in functions.items():
                call = getattr(module, function)
                self.assertEqual(call.__module__, "keyriders." + name, function)
                self.check_arguments(call, arguments)

    def check_arguments(self, call, arguments):
        """Check that a call takes just these arguments, by place or by name."""
        parameters = inspect.signature(call).parameters.values()
        self.assertEqual([parameter.name for parameter in parameters], arguments, call)
        for parameter in parameters:
            self.assertIs(parameter.kind, inspect.Parameter.POSITIONAL_OR_KEYWORD, call)
            self.assertIs(parameter.default, inspect.Parameter.empty, call)

    def test_each_method_is_defined_in_its_class_with_its_arguments(self):
        for (name, kind), methods in METHODS.items():
            found = getattr(importlib.import_module("keyriders." + name), kind)
            self.assertEqual(found.__module__, "keyriders." + name)
            for method, arguments in methods.items():
                self.check_arguments(vars(found)[method], ["self"] + arguments)

    def test_each_property_can_only_be_read(self):
        for (name, kind), properties in PROPERTIES.items():
            found = getattr(importlib.import_module("keyriders." + name), kind)
            for told in properties:
                self.assertIsInstance(vars(found)[told], property)
                self.assertIsNone(vars(found)[told].fset, told)
