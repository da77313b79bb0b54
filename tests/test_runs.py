"""[B6], and what [B8] says of run."""

import random
import unittest

from keyriders.deeds import done
from keyriders.errors import TooMany
from keyriders.programs import backward, joined, kinds_of, length, program_error
from keyriders.runs import run
from keyriders.standings import standing_error
from tests.helper import check_call, check_raise, nested, within
from tests.test_deeds import all_deeds
from tests.test_programs import FAR, IDLE, MANY, RING, some_programs, standings, through

RIDERS = (0, 7, 8, 9, 6)
EMPTY = ("row", ())


class RunTest(unittest.TestCase):
    def check(self, n, program):
        """Check the run of a program from a standing for each lot of keys; return the last result."""
        self.assertIsNone(program_error(n, program))
        for standing in standings(n):
            found = check_call(self, run, n=n, program=program, standing=standing)
            self.assertEqual(found, through(program, standing))
        return found

    def check_too_many(self, n, program):
        self.assertIsNone(program_error(n, program))
        check_raise(self, run, TooMany, {"limit": 5000}, n=n, program=program, standing=standings(n)[1])

    def check_behind(self, program, many, deed=RING[0][1]):
        """Check a program that does one deed so many times; it stands first in each of these programs."""
        self.assertIsNone(program_error(5, program))
        self.assertEqual(length(program), many)
        if many > 5000:
            self.check_too_many(5, program)
        else:
            behind = done(RIDERS, deed) if many % 2 else RIDERS
            self.assertEqual(check_call(self, run, n=5, program=program, standing=RIDERS), behind)

    def test_the_examples(self):
        self.assertEqual(run(5, RING, (0, 7, 8, 9, 6)), (0, 9, 7, 8, 6))
        self.assertEqual(run(5, RING, (5, 7, 8, 9, 6)), (5, 7, 8, 9, 6))
        self.assertEqual(run(5, RING, (0, 0, 8, 9, 6)), (0, 9, 0, 8, 6))
        self.assertEqual(run(5, backward(RING), (0, 9, 7, 8, 6)), (0, 7, 8, 9, 6))
        self.assertEqual(run(5, (("times", EMPTY, MANY),), (1, 2, 3, 4, 5)), (1, 2, 3, 4, 5))
        self.assertEqual(run(5, joined(RING, IDLE), (0, 7, 8, 9, 6)), (9, 0, 7, 8, 6))
        check_raise(self, run, TooMany, {"limit": 5000}, n=5, program=(RING[0], ("times", ("part", 0), 5001)),
                    standing=RIDERS)

    def test_each_deed_alone_and_undone(self):
        for n in (3, 4, 5):
            for deed in all_deeds(n):
                for term in (("do", deed), ("back", ("do", deed)), ("times", ("do", deed), 3)):
                    for standing in standings(n):
                        self.assertEqual(run(n, (term,), standing), done(standing, deed))

    def test_parts_never_once_and_often_used(self):
        parts = (RING[0], RING[1], ("row", (("part", 0), ("part", 1))), ("do", ((), 0, 4)))
        for term in (EMPTY, ("part", 0), ("part", 2), ("row", (("part", 2), ("part", 3), ("part", 2))),
                     ("row", (("part", 3),) * 7 + (("part", 1),) * 3), ("times", ("part", 2), 5),
                     ("back", ("part", 2)), ("row", (("part", 2), ("back", ("part", 2))))):
            self.check(5, parts + (term,))
            self.check(5, parts + (term, ("row", (("part", 4), ("part", 3), ("part", 4)))))

    def test_what_is_undone_is_done_from_the_last_deed_on(self):
        row = ("row", (RING[0], RING[1], ("do", ((1,), 0, 4)), ("do", ((), 2, 3))))
        for deep in range(1, 11):
            self.check(5, (nested(row, deep, lambda term: ("back", term)),))
        self.check(5, (row, ("back", ("row", (("part", 0), ("times", ("part", 0), 3), RING[0])))))
        self.check(5, (row, ("back", ("times", ("row", (("back", ("part", 0)), RING[1])), 5))))
        for standing in standings(5):
            self.assertEqual(run(5, (("row", (row, ("back", row))),), standing), standing)

    def test_what_is_done_no_times_and_rows_without_terms(self):
        for term in (EMPTY, ("times", RING[0], 0), ("back", EMPTY), ("back", ("times", RING[0], 0)),
                     ("times", EMPTY, 7), ("row", (EMPTY,) * 400), ("times", ("times", RING[0], 0), MANY),
                     ("times", ("times", RING[0], MANY), 0), nested(EMPTY, 11, lambda inner: ("row", (inner, inner)))):
            for standing in standings(5):
                self.assertEqual(run(5, (term,), standing), standing)
            self.check(5, (RING[1], ("row", (EMPTY, RING[0], ("times", RING[1], 0), ("part", 0), EMPTY))))

    def test_terms_within_one_another(self):
        for wrap in (lambda term: ("row", (term, RING[1])), lambda term: ("times", term, 2), lambda term: ("back", term),
                     lambda term: ("back", ("row", (RING[1], ("times", term, 1))))):
            for deep in range(4):
                self.check(5, (nested(RING[0], deep, wrap),))

    def test_just_five_thousand_deeds_and_one_more(self):
        do, part = RING[0], ("part", 0)
        for program, many in (
            ((("times", do, 5000),), 5000), ((("times", do, 5001),), 5001), ((("times", do, 4999),), 4999),
            ((do, ("times", part, 5000)), 5000), ((do, ("times", part, 5001)), 5001),
            ((do, ("back", ("times", part, 5000))), 5000), ((do, ("back", ("times", part, 5001))), 5001),
            ((do, ("times", ("back", part), 5000)), 5000), ((do, ("times", ("back", part), 5001)), 5001),
            ((("times", ("times", do, 50), 100),), 5000), ((("times", ("times", do, 3), 1667),), 5001),
            ((("times", ("times", ("times", do, 5), 10), 100),), 5000), ((("times", ("times", do, 71), 71),), 5041),
            ((("times", ("times", do, 1), 5000),), 5000), ((("times", ("times", do, 5000), 1),), 5000),
            ((("times", ("times", do, 5001), 1),), 5001), ((("times", ("times", do, 1), 5001),), 5001),
            ((do, ("times", part, 5000), ("back", ("part", 1))), 5000), ((do, ("times", part, 5000), ("row", (part, ("part", 1)))), 5001),
            ((do, ("times", part, 5000), ("row", (("part", 1), part))), 5001),
            ((do, ("times", part, 5000), ("row", (EMPTY, ("part", 1), EMPTY, ("times", part, 0)))), 5000),
            ((do, ("times", part, 5000), ("row", (("part", 1), ("part", 1)))), 10000),
            ((do, ("times", part, 5000), ("times", ("part", 1), MANY)), 5000 * MANY),
            ((("times", do, 10 ** 6),), 10 ** 6), ((("times", do, MANY),), MANY), ((("back", ("times", do, MANY)),), MANY),
        ):
            self.check_behind(program, many)

    def test_rows_of_four_hundred(self):
        do = RING[0]
        full = ("row", (do,) * 400)
        self.check_behind((full,), 400)
        self.check_behind((("row", (full,) * 12 + (do,) * 200),), 5000)
        self.check_behind((("row", (full,) * 12 + (do,) * 201),), 5001)
        self.check_behind((full, ("row", (do,) * 200 + (("part", 0),) * 12)), 5000)
        self.check_behind((full, ("row", (do,) * 201 + (("part", 0),) * 12)), 5001)
        self.check_behind((full, ("row", (("part", 0),) * 400)), 160000)
        self.check_behind((full, ("row", (("back", ("part", 0)),) * 12)), 4800)
        self.check_behind((full, ("times", ("part", 0), 12)), 4800)
        self.check_behind((full, ("times", ("part", 0), 13)), 5200)
        self.check_behind((("row", (do,) * 12), ("row", (("part", 0),) * 400)), 4800)
        self.check_behind((("row", (do,) * 13), ("row", (("part", 0),) * 400)), 5200)

    def test_far_more_deeds(self):
        with within(20):
            self.check_too_many(5, FAR)
            self.check_too_many(5, FAR[:11])
            self.check_too_many(5, FAR + (("back", ("part", 11)),))
            self.check_too_many(5, FAR + (("row", (EMPTY, ("part", 11))),))
            self.check_too_many(5, (nested(RING[0], 11, lambda term: ("times", term, MANY)),))
            for row in ((("part", 0),) * 2, (("part", 0), EMPTY, ("part", 0))):
                program = [RING[0]]
                for place in range(399):
                    program.append(("row", tuple([("part", place) if term[0] == "part" else term for term in row])))
                self.check_too_many(5, tuple(program))
                self.assertEqual(run(5, tuple(program[:13]), RIDERS), RIDERS)

    def test_only_what_the_program_does_counts(self):
        for ahead in (FAR, (("times", RING[0], 5001),), FAR[:11] + (("row", (("part", 10),) * 400),)):
            last = ("part", len(ahead) - 1)
            for term, many in (
                (RING[0], 1), (EMPTY, 0), (("times", last, 0), 0), (("back", ("times", last, 0)), 0),
                (("row", (RING[0], ("times", ("row", (last, last)), 0), RING[0], RING[0])), 3),
                (("times", RING[0], 5000), 5000), (("times", RING[0], 5001), 5001), (last, 5001),
                (("times", ("back", last), 0), 0), (("row", (("times", ("times", last, 3), 0), RING[0])), 1),
            ):
                program = ahead + (term,)
                if many > 5000:
                    self.check_too_many(5, program)
                else:
                    self.check_behind(program, many)

    def test_terms_without_deeds_done_often(self):
        with within(20):
            for inner in (EMPTY, ("times", RING[0], 0), ("back", EMPTY), ("row", (EMPTY, EMPTY))):
                for deep in range(1, 10):
                    self.check_behind((nested(inner, deep, lambda term: ("times", term, MANY)),), 0)
                self.check_behind((RING[0], ("row", (("times", inner, MANY), ("part", 0), ("times", inner, MANY)))), 1)
                program = [inner]
                for place in range(399):
                    program.append(("row", (("part", place), ("times", ("part", place), MANY))))
                self.check_behind(tuple(program), 0)
                program = [inner] + [("row", (("part", place), ("part", place))) for place in range(399)]
                self.check_behind(tuple(program), 0)
                self.check_behind(tuple(program[:398]) + (RING[0], ("row", (("part", 397), ("part", 398)))), 1)

    def test_many_programs(self):
        for n, seed in ((3, 11), (4, 12), (5, 13)):
            for program in some_programs(n, 60, seed):
                self.check(n, program)

    def test_many_places(self):
        lot = tuple(range(22))
        program = (("do", (lot, 22, 23)), ("row", (("part", 0), ("do", (lot[1:], 0, 23)))))
        self.assertEqual(run(24, program, (0,) * 22 + (5, 6)), (5,) + (0,) * 21 + (6, 0))
        riders = tuple(range(1, 25))
        self.assertEqual(run(24, program, riders), riders)
        self.assertEqual(run(24, program, (0,) * 24), (0,) * 24)


class WhatHoldsTest(unittest.TestCase):
    def test_keys_and_riders_stay_as_many(self):
        chance = random.Random(14)
        for n, seed in ((3, 15), (4, 16), (6, 17)):
            for program in some_programs(n, 40, seed):
                riders = chance.sample(range(1, 100), n)
                standing = tuple([chance.choice((0, rider)) for rider in riders])
                found = run(n, program, standing)
                self.assertIsNone(standing_error(n, found))
                self.assertEqual(sorted(found), sorted(standing))

    def test_joined_and_backward(self):
        for n, seed in ((3, 18), (4, 19), (5, 20)):
            programs = some_programs(n, 30, seed)
            for one, other in zip(programs, programs[1:]):
                for standing in standings(n):
                    self.assertEqual(run(n, joined(one, other), standing), run(n, other, run(n, one, standing)))
                    self.assertEqual(run(n, backward(one), run(n, one, standing)), standing)
                    self.assertEqual(run(n, one, run(n, backward(one), standing)), standing)

    def test_a_program_without_kinds_does_no_deed(self):
        without = [program for program in some_programs(5, 300, 21) if kinds_of(program) == ()]
        self.assertGreater(len(without), 10)
        for program in without:
            self.assertEqual(length(program), 0)
            for standing in standings(5):
                self.assertEqual(run(5, program, standing), standing)
