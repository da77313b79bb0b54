"""[B5]."""

import random
import unittest

from keyriders.deeds import done
from keyriders.errors import TooMany
from keyriders.lots import all_lots
from keyriders.programs import backward, joined, kinds_of, length, program_error
from tests.helper import check_call, check_raise, nested, within
from tests.test_deeds import all_deeds

RING = (("do", ((0,), 1, 2)), ("do", ((0,), 2, 3)), ("times", ("row", (("part", 0), ("part", 1))), 2))
IDLE = (RING[0], ("do", ((), 0, 1)), ("row", (("times", ("part", 0), 0), ("back", ("part", 1)))))
FAR = (RING[0],) + tuple([("times", ("part", i), 10 ** 30) for i in range(11)])
MANY = 10 ** 30


def deeds_of(program):
    """Return the list of the deeds that a program does, one by one."""
    rows = []

    def of_term(term):
        if term[0] == "do":
            return [term[1]]
        if term[0] == "row":
            return [deed for inner in term[1] for deed in of_term(inner)]
        if term[0] == "back":
            return of_term(term[1])[::-1]
        if term[0] == "times":
            return of_term(term[1]) * term[2]
        return rows[term[1]]

    for term in program:
        rows.append(of_term(term))
    return rows[-1]


def through(program, standing):
    """Return the standing behind all deeds of a program."""
    for deed in deeds_of(program):
        standing = done(standing, deed)
    return standing


def standings(n):
    """Return a standing for each lot of keys."""
    return [tuple([0 if place in lot else 10 + place for place in range(n)]) for lot in all_lots(n)]


def some_programs(n, many, seed):
    """Return programs of n with few deeds each, of terms of all words."""
    chance = random.Random(seed)
    deeds = all_deeds(n)

    def term(place, deep):
        word = chance.choice(("do", "do", "row", "back", "times", "part") if deep < 4 else ("do",))
        if word == "part" and place > 0:
            return ("part", chance.randrange(place))
        if word == "row":
            return ("row", tuple([term(place, deep + 1) for _ in range(chance.randrange(4))]))
        if word == "back":
            return ("back", term(place, deep + 1))
        if word == "times":
            return ("times", term(place, deep + 1), chance.randrange(4))
        return ("do", chance.choice(deeds))

    programs = []
    while len(programs) < many:
        program = tuple([term(place, 1) for place in range(chance.randrange(1, 7))])
        if max(length(program[:end]) for end in range(1, len(program) + 1)) <= 300:
            programs.append(program)
    return programs


class LengthAndKindsTest(unittest.TestCase):
    def check(self, program, many, kinds):
        self.assertIsNone(program_error(5, program))
        self.assertEqual(check_call(self, length, program=program), many)
        self.assertEqual(check_call(self, kinds_of, program=program), kinds)

    def check_too_long(self, program, kinds):
        self.assertIsNone(program_error(5, program))
        check_raise(self, length, TooMany, {"limit": 10 ** 300}, program=program)
        self.assertEqual(check_call(self, kinds_of, program=program), kinds)

    def test_the_examples(self):
        self.check(RING, 4, (1,))
        self.check(RING[:2], 1, (1,))
        self.check((RING[0], ("times", ("times", ("part", 0), MANY), MANY)), 10 ** 60, (1,))
        self.check(IDLE, 1, (0,))
        self.check((("times", ("row", ()), MANY),), 0, ())
        self.check((("row", ()),), 0, ())
        self.check(FAR[:11], 10 ** 300, (1,))
        self.check_too_long(FAR, (1,))

    def test_one_deed_of_each_kind(self):
        for deed in all_deeds(5):
            for term, many in ((("do", deed), 1), (("back", ("do", deed)), 1), (("times", ("do", deed), 7), 7)):
                self.check((term,), many, (len(deed[0]),))
                self.check((("do", deed), ("times", term, 0)), 0, ())

    def test_the_greatest_kind(self):
        for n in range(3, 25):
            program = (("do", (tuple(range(n - 2)), n - 2, n - 1)), ("row", (("part", 0), ("do", ((), 0, 1)))))
            self.assertIsNone(program_error(n, program))
            self.assertEqual((length(program), kinds_of(program)), (2, (0, n - 2)))

    def test_parts_never_once_and_often_used(self):
        parts = tuple([("do", (tuple(range(kind)), 3, 4)) for kind in (3, 0, 2, 1)])
        self.check(parts + (("row", ()),), 0, ())
        for place, kind in enumerate((3, 0, 2, 1)):
            self.check(parts + (("part", place),), 1, (kind,))
            self.check(parts + (("row", (("part", place),) * 400),), 400, (kind,))
        self.check(parts + (("row", (("part", 0), ("part", 3), ("part", 0), ("part", 2))),), 4, (1, 2, 3))
        self.check(parts + (("row", (("part", 2), ("part", 1), ("part", 1))),), 3, (0, 2))
        self.check(parts + (("row", tuple([("part", place) for place in range(4)])), ("times", ("part", 4), 3)), 12,
                   (0, 1, 2, 3))

    def test_parts_of_parts(self):
        program = (RING[0], ("row", (("part", 0), ("part", 0))), ("row", (("part", 1), ("part", 0), ("part", 1))),
                   ("times", ("row", (("part", 2), ("part", 1))), 3))
        self.check(program, 21, (1,))
        self.check(program + (("times", ("part", 3), 0),), 0, ())
        self.check(program + (("do", ((), 0, 1)),), 1, (0,))

    def test_what_is_undone_counts_like_others(self):
        self.check((RING[0], ("row", (("part", 0), ("back", ("part", 0))))), 2, (1,))
        self.check((RING[0], ("back", ("row", (("part", 0), ("times", ("do", ((), 0, 1)), 5))))), 6, (0, 1))
        for deep in range(1, 12):
            self.check((nested(("do", ((), 0, 1)), deep, lambda term: ("back", term)),), 1, (0,))

    def test_what_is_done_no_times(self):
        self.check((("times", RING[0], 0),), 0, ())
        self.check((("times", ("times", RING[0], 0), MANY),), 0, ())
        self.check((("times", ("times", RING[0], MANY), 0),), 0, ())
        self.check((("row", (("times", RING[0], 0), ("do", ((0, 1), 2, 3)), ("back", ("times", RING[0], 0)))),), 1, (2,))
        self.check(FAR + (("times", ("part", 11), 0),), 0, ())
        self.check(FAR + (("back", ("times", ("row", (("part", 11), ("part", 11))), 0)),), 0, ())

    def test_times_within_one_another(self):
        for deep in range(1, 11):
            program = (nested(RING[0], deep, lambda term: ("times", term, MANY)),)
            self.check(program, 10 ** (30 * deep), (1,))
        self.check_too_long((nested(RING[0], 11, lambda term: ("times", term, MANY)),), (1,))
        self.check((nested(RING[0], 11, lambda term: ("times", term, 3)),), 3 ** 11, (1,))
        self.check((("times", ("times", ("row", (RING[0], RING[0])), 10 ** 29), 7),), 14 * 10 ** 29, (1,))

    def test_just_the_most_deeds_and_one_more(self):
        most = FAR[:11]
        for ahead in (("row", (("part", 10), ("part", 0))), ("row", (("part", 0), ("part", 10))),
                      ("times", ("part", 10), 2), ("row", (("part", 10), ("do", ((), 0, 1))))):
            kinds = (0, 1) if ahead[1] == (("part", 10), ("do", ((), 0, 1))) else (1,)
            self.check_too_long(most + (ahead,), kinds)
            self.check_too_long(most + (("back", ahead),), kinds)
            self.check_too_long(most + (ahead, ("part", 11)), kinds)
        self.check(most + (("row", (("part", 10), ("row", ()), ("times", ("part", 10), 0))),), 10 ** 300, (1,))
        self.check(most + (("back", ("part", 10)),), 10 ** 300, (1,))
        nines = FAR[:10] + (("times", ("part", 9), MANY - 1),)
        self.check(nines, 10 ** 300 - 10 ** 270, (1,))
        self.check(nines + (("row", (("part", 10), ("part", 9))),), 10 ** 300, (1,))
        self.check_too_long(nines + (("row", (("part", 10), ("part", 9), ("part", 0))),), (1,))

    def test_parts_with_too_many_deeds_that_are_not_used(self):
        self.check(FAR + (("part", 3),), 10 ** 90, (1,))
        self.check(FAR + (("do", ((), 0, 1)),), 1, (0,))
        self.check(FAR + (("row", ()),), 0, ())

    def test_four_hundred_terms_each_of_which_uses_the_one_ahead(self):
        with within(20):
            for term, many in (
                (lambda i: ("part", i), 1), (lambda i: ("back", ("part", i)), 1),
                (lambda i: ("row", (("part", i), ("part", i))), 2 ** 399),
                (lambda i: ("row", (("part", i), ("back", ("part", i)), ("times", ("part", i), 0))), 2 ** 399),
                (lambda i: ("row", (("part", i), RING[0])), 400),
            ):
                self.check((RING[0],) + tuple([term(i) for i in range(399)]), many, (1,))
            for term in (lambda i: ("times", ("part", i), MANY), lambda i: ("row", (("part", i),) * 8),
                         lambda i: nested(("part", i), 11, lambda inner: ("times", inner, MANY))):
                program = (RING[0],) + tuple([term(i) for i in range(399)])
                self.check_too_long(program, (1,))
                self.check((program[:-1] + (("times", ("part", 398), 0),)), 0, ())

    def test_many_programs_deed_by_deed(self):
        for n, seed in ((3, 1), (4, 2), (5, 3)):
            for program in some_programs(n, 150, seed):
                self.assertIsNone(program_error(n, program))
                deeds = deeds_of(program)
                self.assertEqual(length(program), len(deeds))
                self.assertEqual(kinds_of(program), tuple(sorted({len(deed[0]) for deed in deeds})))


class JoinedTest(unittest.TestCase):
    def check(self, n, one, other):
        found = check_call(self, joined, one=one, other=other)
        self.assertIsNone(program_error(n, found))
        for standing in standings(n):
            self.assertEqual(through(found, standing), through(other, through(one, standing)))
        return found

    def test_some(self):
        self.check(5, RING, IDLE)
        self.check(5, IDLE, RING)
        self.check(5, RING, RING)
        self.check(5, RING[:1], RING[:2])
        self.check(4, (("row", ()),), RING)

    def test_many_programs(self):
        for n, seed in ((3, 4), (4, 5), (5, 6)):
            programs = some_programs(n, 30, seed)
            for one, other in zip(programs, programs[1:]):
                self.check(n, one, other)
                self.check(n, other, self.check(n, one, other))

    def test_terms_twelve_deep(self):
        program = (RING[0], nested(("row", (("part", 0), ("part", 0))), 10, lambda term: ("back", term)))
        self.assertIsNone(program_error(5, program))
        found = self.check(5, program, program)
        self.check(5, found, program)
        self.check(5, program, found)

    def test_long_ones(self):
        found = joined(FAR, FAR)
        self.assertIsNone(program_error(5, found))
        check_raise(self, length, TooMany, {"limit": 10 ** 300}, program=found)
        self.assertEqual(length(joined(FAR[:3], FAR[:4])), 10 ** 60 + 10 ** 90)

    def test_too_many_terms_just_from_four_hundred_together_on(self):
        chain = (RING[0],) + tuple([("back", ("part", i)) for i in range(399)])
        self.assertIsNone(program_error(5, chain))
        for one in (1, 2, 150, 199, 200, 398, 399, 400):
            for many in (397, 398, 399, 400, 401, 800):
                if not 1 <= many - one <= 400:
                    continue
                parts = {"one": chain[:one], "other": chain[:many - one]}
                if many >= 400:
                    check_raise(self, joined, TooMany, {"limit": 400}, **parts)
                else:
                    found = self.check(5, **parts)
                    self.assertEqual(length(found), 2)


class BackwardTest(unittest.TestCase):
    def check(self, n, program):
        found = check_call(self, backward, program=program)
        self.assertIsNone(program_error(n, found))
        for standing in standings(n):
            self.assertEqual(through(found, through(program, standing)), standing)
            self.assertEqual(through(program, through(found, standing)), standing)
        return found

    def test_some(self):
        for program in (RING, IDLE, RING[:1], RING[:2], (("row", ()),), (("times", ("row", ()), 3),)):
            self.check(5, program)

    def test_many_programs(self):
        for n, seed in ((3, 7), (4, 8), (5, 9)):
            for program in some_programs(n, 40, seed):
                self.check(n, self.check(n, program))

    def test_terms_twelve_deep(self):
        program = (RING[0], nested(("row", (("part", 0), RING[1])), 10, lambda term: ("back", term)))
        self.check(5, self.check(5, program))

    def test_long_ones(self):
        self.assertIsNone(program_error(5, backward(FAR)))
        self.assertEqual(length(backward(FAR[:11])), 10 ** 300)

    def test_too_many_terms_just_from_four_hundred_on(self):
        chain = (RING[0],) + tuple([("row", (("part", i), RING[1])) for i in range(399)])
        for many in (397, 398, 399):
            self.check(5, chain[:many])
        check_raise(self, backward, TooMany, {"limit": 400}, program=chain)
        check_raise(self, backward, TooMany, {"limit": 400}, program=backward(chain[:399]))
