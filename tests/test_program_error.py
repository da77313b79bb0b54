"""[B3] and [B4]."""

import unittest

from keyriders.programs import program_error
from tests.helper import VALUES, check_call, nested

GOOD = ("do", ((0,), 1, 2))
RING = (GOOD, ("do", ((0,), 2, 3)), ("times", ("row", (("part", 0), ("part", 1))), 2))

# Terms with a fault of their own, at the place 2 of a program of 5, and the word of the fault.
FAULTS = (
    (("do", ((1,), 1, 2)), "deed"), (("do", ((0,), 2, 1)), "deed"), (("do", ((5,), 1, 2)), "deed"),
    (("do", ((0,), 1, 5)), "deed"), (("do", [(0,), 1, 2]), "deed"), (("do", ((0,), 1)), "deed"), (("do", None), "deed"),
    (("do", ((0,), True, 2)), "deed"), (("do", ("do", ((0,), 1, 2))), "deed"), (("do", ()), "deed"),
    (("row", [GOOD]), "many"), (("row", None), "many"), (("row", {}), "many"), (("row", 0), "many"), (("row", "do"), "many"),
    (("row", (GOOD,) * 401), "many"), (("row", (None,) * 401), "many"), (("row", [GOOD] * 400), "many"),
    (("times", GOOD, -1), "times"), (("times", GOOD, 10 ** 30 + 1), "times"), (("times", GOOD, True), "times"),
    (("times", GOOD, False), "times"), (("times", GOOD, None), "times"), (("times", GOOD, "2"), "times"),
    (("times", GOOD, (2,)), "times"), (("times", GOOD, 10 ** 399), "times"), (("times", 3, GOOD), "times"),
    (("part", 2), "part"), (("part", 3), "part"), (("part", -1), "part"), (("part", True), "part"), (("part", False), "part"),
    (("part", None), "part"), (("part", "0"), "part"), (("part", (0,)), "part"), (("part", [0]), "part"),
    (("part", 10 ** 399), "part"), (("part", GOOD), "part"),
    ((), "term"), (("do",), "term"), (("row",), "term"), (("back",), "term"), (("times",), "term"), (("part",), "term"),
    (("do", ((0,), 1, 2), 1), "term"), (("row", (), 1), "term"), (("back", GOOD, 1), "term"), (("part", 0, 0), "term"),
    (("times", GOOD), "term"), (("times", GOOD, 1, 1), "term"), (("row", (), (), ()), "term"), (("do", (0,), 1, 2), "term"),
    (["do", ((0,), 1, 2)], "term"), (["row", ()], "term"), (["times", GOOD, 1], "term"), ({"part": 0}, "term"),
    (("Do", ((0,), 1, 2)), "term"), (("", ()), "term"), (("rows", ()), "term"), (("do ", ((0,), 1, 2)), "term"),
    (("Times", GOOD, 1), "term"), ((["do"], ((0,), 1, 2)), "term"), (({"row": 0}, ()), "term"), ((0, GOOD), "term"),
    ((None, GOOD), "term"), ((True, GOOD), "term"), ((("part",), 0), "term"), ((["times"], GOOD, 1), "term"),
    (({}, GOOD, 1), "term"), ((7, GOOD, 1), "term"), (((0,), 1, 2), "term"), ((GOOD, GOOD), "term"), ((0, "part"), "term"),
    (None, "term"), (True, "term"), (0, "term"), ("part", "term"), ("do", "term"), ("", "term"), (7, "term"),
)

WRAPS = (
    lambda term: ("row", (term,)),
    lambda term: ("row", (GOOD, ("part", 0), term, None)),
    lambda term: ("back", term),
    lambda term: ("times", term, 0),
    lambda term: ("times", term, 10 ** 30),
)


class ProgramErrorTest(unittest.TestCase):
    def test_the_examples(self):
        values = (RING, (), list(RING), RING[2:])
        self.assertEqual([program_error(5, value) for value in values], [None, "form", "form", (0, "part")])
        self.assertEqual(program_error(3, RING), (1, "deed"))
        terms = (("do",), ("do", ((1,), 1, 2)), ("row", [RING[0]]), ("times", None, -1), ("times", None, 1),
                 ("back", ("part", True)), ["row", ()])
        told = [(0, "term"), (0, "deed"), (0, "many"), (0, "times"), (0, "term"), (0, "part"), (0, "term")]
        self.assertEqual([program_error(5, (term,)) for term in terms], told)

    def test_each_word_at_each_depth(self):
        for fault, word in FAULTS:
            for wrap in WRAPS:
                for ahead in range(12):
                    value = (GOOD, ("row", ()), nested(fault, ahead, wrap), GOOD)
                    self.assertEqual(program_error(5, value), (2, word), (fault, ahead))

    def test_each_word_at_each_place(self):
        for fault, word in FAULTS:
            for place in (0, 1, 2):
                value = (GOOD,) * place + (fault,) + (GOOD,)
                self.assertEqual(check_call(self, program_error, n=5, value=value), (place, word), fault)

    def test_terms_of_each_word_without_fault_at_each_depth(self):
        for term in (GOOD, ("do", ((), 0, 4)), ("do", ((0, 1, 2), 3, 4)), ("row", ()), ("part", 0), ("part", 1)):
            for wrap in (*WRAPS[:1], *WRAPS[2:], lambda inner: ("row", (GOOD, inner, ("part", 1)))):
                for ahead in range(12):
                    self.assertIsNone(program_error(5, (GOOD, ("row", ()), nested(term, ahead, wrap))), (term, ahead))

    def test_twelve_and_thirteen_deep(self):
        for wrap in (*WRAPS[:1], *WRAPS[2:]):
            self.assertIsNone(program_error(5, (GOOD, nested(("part", 0), 11, wrap))))
            for term in (GOOD, ("part", 0), ("part", 1), None, ("row", []), ("times", None, -1), [], "deep"):
                self.assertEqual(program_error(5, (GOOD, nested(term, 12, wrap))), (1, "deep"), term)
                self.assertEqual(program_error(5, (GOOD, nested(term, 39, wrap))), (1, "deep"), term)

    def test_a_row_twelve_deep_may_be_empty_alone(self):
        for many in range(3):
            value = (nested(("row", (GOOD,) * many), 11, lambda term: ("back", term)),)
            self.assertEqual(program_error(5, value), None if many == 0 else (0, "deep"))

    def test_a_fault_of_the_term_itself_comes_ahead_of_what_is_too_deep_in_it(self):
        for term, word in (
            (("times", ("row", ()), -1), "times"), (("row", [None]), "many"), (("row", (None,) * 401), "many"),
            (("back", None), "deep"), (("times", None, 1), "deep"), (("row", (None, 0)), "deep"), (("back",), "term"),
        ):
            self.assertEqual(program_error(5, (nested(term, 11, lambda inner: ("back", inner)),)), (0, word))

    def test_parts_do_not_make_deep(self):
        value = [GOOD]
        for place in range(399):
            value.append(nested(("part", place), 11, lambda term: ("back", term)))
        self.assertIsNone(program_error(5, tuple(value)))

    def test_the_least_place_with_a_fault(self):
        for fault, word in FAULTS:
            for other, _ in FAULTS[::7]:
                self.assertEqual(program_error(5, (GOOD, GOOD, fault, other)), (2, word))
                self.assertEqual(program_error(5, (GOOD, GOOD, nested(fault, 5, WRAPS[0]), other)), (2, word))

    def test_the_fault_that_is_met_first(self):
        deep = nested(GOOD, 11, lambda term: ("back", term))
        for term, word in (
            (("row", (("part", 9), None)), "part"), (("row", (None, ("part", 9))), "term"),
            (("row", (("back", ("times", None, -1)), None)), "times"), (("row", (GOOD, ("back", ("do", ())), None)), "deed"),
            (("row", (deep, None)), "deep"), (("row", (None, deep)), "term"), (("times", ("part", 9), -1), "times"),
            (("times", ("part", 9), 1), "part"), (("times", ("row", []), 1), "many"), (("row", ((), [])), "term"),
            (("row", (("row", (("row", (GOOD, ("part", 7))),)), ("row", []))), "part"),
            (("row", [("part", 9)]), "many"), (("back", ("row", (("back", None), ("part", 9)))), "term"),
            (("row", (GOOD,) * 399 + (None,)), "term"), (("row", (("row", (None,) * 401), None)), "many"),
        ):
            self.assertEqual(check_call(self, program_error, n=5, value=(GOOD, GOOD, term)), (2, word), term)

    def test_how_many_terms(self):
        for many, told in ((1, None), (2, None), (399, None), (400, None), (401, "form"), (4000, "form")):
            self.assertEqual(program_error(5, (GOOD,) * many), told)
            self.assertEqual(program_error(5, [GOOD] * many), "form")
        self.assertEqual(program_error(5, (GOOD,) * 399 + (None,)), (399, "term"))
        self.assertEqual(program_error(5, (None,) * 400), (0, "term"))
        self.assertEqual(program_error(5, (None,) * 401), "form")

    def test_how_many_terms_in_a_row(self):
        for many, told in ((0, None), (1, None), (399, None), (400, None), (401, (0, "many")), (3000, (0, "many"))):
            for wrap in (lambda term: term, *WRAPS[:1], *WRAPS[2:]):
                self.assertEqual(program_error(5, (wrap(("row", (GOOD,) * many)),)), told, many)

    def test_parts(self):
        for many in (1, 2, 7, 400):
            for place in sorted({0, 1, many // 2, many - 2, many - 1}):
                if not 0 <= place < many:
                    continue
                for g in (-1, 0, 1, place - 1, place, place + 1, many - 1, many, 400):
                    value = (GOOD,) * place + (("part", g),) + (GOOD,) * (many - 1 - place)
                    told = None if 0 <= g < place else (place, "part")
                    self.assertEqual(program_error(5, value), told, (many, place, g))

    def test_how_many_times(self):
        for k in (0, 1, 2, 5000, 10 ** 29, 10 ** 30 - 1, 10 ** 30):
            self.assertIsNone(program_error(5, (("times", GOOD, k),)))
        for k in (-1, -10 ** 30, 10 ** 30 + 1, 10 ** 31, 10 ** 399, True, False, None, "1", (1,), [1], {}, GOOD, 1.0):
            self.assertEqual(program_error(5, (("times", GOOD, k),)), (0, "times"))

    def test_values_of_all_kinds(self):
        for value in VALUES:
            if not isinstance(value, tuple) or not 1 <= len(value) <= 400:
                self.assertEqual(check_call(self, program_error, n=5, value=value), "form")
            if value != ("row", ()):
                self.assertEqual(program_error(5, (GOOD, value))[0], 1)
            self.assertEqual(program_error(5, (("do", value),)), (0, "deed"))
            self.assertIn(program_error(5, (("row", value),)), (None, (0, "many"), (0, "term")))
            self.assertEqual(program_error(5, (("part", value),)), (0, "part"))
            for pair in ((value, GOOD), (value, GOOD, 1)):
                if value not in ("do", "row"):
                    self.assertEqual(program_error(5, (pair,)), (0, "term"))

    def test_what_is_told_is_plain(self):
        self.assertIs(type(program_error(5, (None,))), tuple)
        self.assertIs(type(program_error(5, (None,))[0]), int)

    def test_one_program_for_other_n(self):
        value = (("do", ((), 0, 2)), ("do", ((1,), 0, 3)), ("do", ((0, 3), 1, 4)), ("do", ((22,), 0, 23)))
        self.assertEqual([program_error(n, value) for n in range(3, 25)],
                         [(1, "deed"), (2, "deed")] + [(3, "deed")] * 19 + [None])
        self.assertEqual([program_error(n, RING) for n in range(3, 25)], [(1, "deed")] + [None] * 21)
