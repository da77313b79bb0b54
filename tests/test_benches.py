"""[H1] to [H5], and what [H7] says of benches."""

import copy
import random
import unittest
from itertools import product

from keyriders.benches import Bench
from keyriders.doing import led, table_of
from keyriders.errors import (
    BadBatch, BadProgram, Barred, NoName, NothingToRedo, NothingToUndo, NoVersion, Rejected, RidersError, Taken, TooMany,
    TooManyEdits, Unfit,
)
from keyriders.lots import all_lots
from keyriders.programs import backward, joined, program_error
from keyriders.tables import deed_table
from keyriders.writing import written
from tests.helper import VALUES, kinds_within, raised
from tests.tabled import chance_of, deeds_table
from tests.test_bounds_errors import PLAIN, WITH_ARGUMENT
from tests.test_deeds import all_deeds
from tests.test_programs import FAR, IDLE, RING, some_programs, standings

DEED = ((0,), 1, 2)
GATE = (("do", DEED),)
EMPTY = (("row", ()),)
NAMES = ("a", "b", "gate", "lamp", "zzzzzzzz", "nonee", "non", "abcdefgh")
NO_NAMES = ("", "none", "A", "aB", "a b", " a", "a ", "a1", "1", "abcdefghi", "a\n", "\n", "a_b", "none ", "x" * 20000, "a-b", "\u00e4",
            None, True, 0, 1, ("a",), ["a"], {"a": 1}, (), [], {}, b"a")


def state(b):
    """Return all that a bench shows."""
    return (b.n, b.shelf, b.version, b.log, len(b), list(b), [b.at(version) for version in range(b.version + 1)])


def bench_of(n, **programs):
    """Return a bench with some programs."""
    b = Bench(n)
    for name, program in programs.items():
        b.add(name, program)
    return b


class Error:
    """What an edit of a model raises: the name of the class, and its fields."""

    def __init__(self, name, **fields):
        self.told = (name, fields)


def is_name(value):
    return type(value) is str and 1 <= len(value) <= 8 and set(value) <= set("abcdefghijklmnopqrstuvwxyz") and value != "none"


def is_in(shelf, name):
    return type(name) is str and name in shelf


def edited(n, shelf, word, *args):
    """Return the dict of programs behind an edit, or the Error that [H2] tells."""
    name = args[0]
    if word == "batch":
        return batched(n, shelf, name)
    if word == "add":
        error = program_error(n, args[1])
        if not is_name(name):
            return Error("Unfit")
        if error is not None:
            return Error("BadProgram", error=error)
        if name in shelf:
            return Error("Taken", given=name)
        return Error("TooMany", limit=6) if len(shelf) >= 6 else {**shelf, name: args[1]}
    if not is_in(shelf, name):
        return Error("NoName", given=name)
    others = {key: program for key, program in shelf.items() if key != name}
    if word == "drop":
        return others
    if word == "call":
        if not is_name(args[1]):
            return Error("Unfit")
        return Error("Taken", given=args[1]) if args[1] in shelf else {**others, args[1]: shelf[name]}
    program = shelf[name]
    if word == "put":
        if type(args[1]) is not int or args[1] not in range(len(program)):
            return Error("Unfit")
        program = program[:args[1]] + (args[2],) + program[args[1] + 1:]
    else:
        program = program + (args[1],)
    error = program_error(n, program)
    return Error("BadProgram", error=error) if error is not None else {**shelf, name: program}


def batched(n, shelf, edits):
    counts = {"add": 2, "drop": 1, "call": 2, "put": 3, "more": 2}
    if type(edits) is not tuple or len(edits) > 8:
        return Error("BadBatch")
    for edit in edits:
        if type(edit) is not tuple or not edit or type(edit[0]) is not str or len(edit) - 1 != counts.get(edit[0]):
            return Error("BadBatch")
    for place, edit in enumerate(edits):
        shelf = edited(n, shelf, *edit)
        if isinstance(shelf, Error):
            return Error("Rejected", place=place)
    return shelf


class Model:
    """A bench as the document tells it: a dict of programs for each version, and all worths that were worked out."""

    def __init__(self, n):
        self.n, self.shelves, self.edits, self.version, self.worths = n, [{}], [], 0, set()

    def shelf(self):
        return self.shelves[self.version]

    def edit(self, *edit):
        """Return the new version, or the Error."""
        shelf = edited(self.n, self.shelf(), *edit)
        if isinstance(shelf, Error):
            return shelf
        if self.version == 40:
            return Error("TooManyEdits")
        self.edits = self.edits[:self.version] + [edit]
        self.shelves = self.shelves[:self.version + 1] + [shelf]
        self.version += 1
        return self.version

    def step(self, by):
        """Return the version behind an undo or a redo, or the Error."""
        if not 0 <= self.version + by <= len(self.edits):
            return Error("NothingToUndo" if by < 0 else "NothingToRedo")
        self.version += by
        return self.version

    def ask(self, *names):
        """Work out the worths of the programs of names; return the first Error, or None."""
        for name in names:
            if not is_in(self.shelf(), name):
                return Error("NoName", given=name)
        for name in names:
            self.worths |= worths_of(self.n, self.shelf()[name])
        return None

    def shown(self):
        """Return what the bench shows, as state does."""
        shelves = [tuple(sorted(shelf.items())) for shelf in self.shelves[:self.version + 1]]
        log = tuple(self.edits[:self.version])
        return (self.n, shelves[-1], self.version, log, len(shelves[-1]), [name for name, _ in shelves[-1]], shelves)


def worths_of(n, program):
    """Return the set of the worths of a program's terms, by [H3]."""
    tables = [table_of(n, program[:end]) for end in range(1, len(program) + 1)]

    def worth(term):
        if term[0] == "part":
            return ("part", tables[term[1]])
        if term[0] == "row":
            return ("row", tuple([worth(inner) for inner in term[1]]))
        return term if term[0] == "do" else (term[0], worth(term[1])) + term[2:]

    return {worth(term) for term in program}


class BenchTest(unittest.TestCase):
    def check_refused(self, b, kind, fields, call, *args):
        """Check that a call raises just this kind of error with these fields, and changes nothing."""
        before, made, other = state(b), b.made, b.copy()
        error = raised(call, *args)
        self.assertIs(type(error), kind, (args, error))
        self.assertEqual({name: kinds_within(getattr(error, name)) for name in fields},
                         {name: kinds_within(value) for name, value in fields.items()})
        self.assertEqual((state(b), b.made), (before, made))
        self.assertEqual(b, other)

    def check_done(self, b, told, call, *args):
        """Check what a call returns, and that what is handed in stays."""
        before = copy.deepcopy(args)
        found = call(*args)
        self.assertEqual(kinds_within(found), kinds_within(told), args)
        self.assertEqual(args, before)


class AttributesTest(BenchTest):
    def test_a_new_bench(self):
        for n in (3, 4, 5, 6):
            for b in (Bench(n), Bench(n=n)):
                self.assertEqual(state(b), (n, (), 0, (), 0, [], [()]))
                self.assertEqual(b.made, 0)

    def test_n_that_is_none(self):
        for n in (2, 7, 0, -3, 10 ** 30, True, None, "3", (3,), [3], {}, 3.0, *VALUES):
            if type(n) is not int or n not in (3, 4, 5, 6):
                self.assertIs(type(raised(Bench, n)), Unfit, n)

    def test_all_are_defined_in_the_class(self):
        for name in ("n", "shelf", "version", "log", "made"):
            self.assertIsInstance(vars(Bench)[name], property)
        for name in ("__init__", "__getitem__", "__len__", "__iter__", "__eq__", "add", "drop", "call", "put", "more", "batch", "table",
                     "led", "alike", "undo", "redo", "at", "copy", "attempt"):
            self.assertTrue(callable(vars(Bench)[name]), name)

    def test_they_can_only_be_read(self):
        b = bench_of(3, gate=GATE)
        for name in ("n", "shelf", "version", "log", "made"):
            before = getattr(b, name)
            with self.assertRaises(AttributeError):
                setattr(b, name, before)
            with self.assertRaises(AttributeError):
                delattr(b, name)
            self.assertEqual(getattr(b, name), before)

    def test_names_and_programs(self):
        b = bench_of(5, lamp=RING, a=IDLE, zz=GATE)
        self.assertEqual(b.shelf, (("a", IDLE), ("lamp", RING), ("zz", GATE)))
        self.assertEqual((list(b), [name for name in b], tuple(b), sorted(b)), (["a", "lamp", "zz"],) * 2 + (("a", "lamp", "zz"), ["a", "lamp", "zz"]))
        self.assertEqual((len(b), b["a"], b["lamp"], b["zz"]), (3, IDLE, RING, GATE))
        self.assertEqual(("a" in b, "b" in b), (True, False))
        self.assertEqual([name for name, other in product(b, b)], ["a"] * 3 + ["lamp"] * 3 + ["zz"] * 3)
        for name in ("b", "A", "zzz", *NO_NAMES, *VALUES, b, Bench(3)):
            if name != "a":
                self.check_refused(b, NoName, {}, b.__getitem__, name)
                self.assertIs(raised(b.__getitem__, name).given, name)

    def test_equal_benches(self):
        one, other = bench_of(5, a=IDLE, b=RING), bench_of(5, b=RING, a=IDLE)
        other.add("c", GATE)
        self.assertFalse(one == other)
        self.assertTrue(one != other)
        other.drop("c")
        self.assertTrue(one == other)
        self.assertFalse(one != other)
        self.assertNotEqual((one.version, one.log), (other.version, other.log))
        for unlike in (bench_of(5, a=IDLE), bench_of(5, a=IDLE, b=GATE), bench_of(5, a=IDLE, c=RING), bench_of(6, a=IDLE, b=RING), Bench(5)):
            self.assertEqual((one == unlike, unlike == one, one != unlike, unlike != one), (False, False, True, True))
        self.assertEqual((Bench(3) == Bench(3), Bench(3) == Bench(4), Bench(3) != Bench(4)), (True, False, True))

    def test_a_bench_is_equal_to_nothing_else(self):
        for b in (Bench(3), bench_of(5, a=RING)):
            for value in (*VALUES, b.shelf, b.n, [b], (b,), Bench, object(), b.log, list(b)):
                self.assertEqual((b == value, value == b, b != value, value != b), (False, False, True, True))
            self.assertEqual((b == b, b != b), (True, False))


class EditsTest(BenchTest):
    def test_the_examples(self):
        b = Bench(3)
        self.assertEqual((b.add("gate", GATE), b.table("gate"), b.made), (1, deed_table(3, DEED), 1))
        self.assertEqual([b.add("more", (("do", DEED), ("times", ("part", 0), 2))), b.alike("more", "gate"), b.made,
                          b.led("more", (0, 8, 7)), b.made], [2, False, 2, (0, 8, 7), 2])
        self.assertEqual([b.put("more", 1, ("times", ("part", 0), 3)), b.alike("more", "gate"), b.made,
                          b.put("more", 0, ("back", ("do", DEED))), b.alike("gate", "more"), b.made], [3, True, 3, 4, True, 4])
        self.assertEqual((b.led("gate", (0, 0, 7)), b.led("gate", (8, 0, 7)), b["more"], len(b), list(b)),
                         ((0, 7, 0), (8, 0, 7), (("back", ("do", DEED)), ("times", ("part", 0), 3)), 2, ["gate", "more"]))
        self.check_refused(b, Unfit, {}, b.put, "gate", 1, ("do", DEED))
        self.check_refused(b, BadProgram, {"error": (1, "part")}, b.more, "gate", ("part", 1))
        self.check_refused(b, BadProgram, {"error": "form"}, b.add, "bad", ())
        self.check_refused(b, Unfit, {}, b.add, "none", GATE)
        self.check_refused(b, Unfit, {}, b.led, "gate", (0, 7, 7))
        self.assertEqual([b.undo(), b.version, b.redo(), b.at(1) == b.shelf[:1], b.copy() == b, b.copy() is b, b.made],
                         [3, 3, 4, True, True, False, 4])
        batch = (("call", "more", "again"), ("more", "again", ("part", 0)))
        self.assertEqual([b.batch(batch), b.log[-1][0], b["again"][2], b.alike("again", "gate"), b.made], [5, "batch", ("part", 0), True, 5])
        self.check_refused(b, Rejected, {"place": 1}, b.batch, (("drop", "gate"), ("drop", "gate")))
        self.check_refused(b, BadBatch, {}, b.batch, (("drop",),))
        self.check_refused(b, NoVersion, {"given": True}, b.at, True)

    def test_each_edit_by_place_and_by_name(self):
        b, other = Bench(5), Bench(5)
        term = ("do", DEED)
        for one, further in (
            (b.add("lamp", RING), other.add(name="lamp", program=RING)), (b.add("a", IDLE), other.add(program=IDLE, name="a")),
            (b.call("a", "zz"), other.call(name="a", other="zz")), (b.put("zz", 0, term), other.put(name="zz", spot=0, term=term)),
            (b.more("zz", ("part", 2)), other.more(name="zz", term=("part", 2))), (b.drop("lamp"), other.drop(name="lamp")),
            (b.batch((("drop", "zz"),)), other.batch(edits=(("drop", "zz"),))), (b.undo(), other.undo()),
        ):
            self.assertEqual(one, further)
            self.assertEqual(state(b), state(other))
        self.assertEqual(b.log, (("add", "lamp", RING), ("add", "a", IDLE), ("call", "a", "zz"), ("put", "zz", 0, term),
                                 ("more", "zz", ("part", 2)), ("drop", "lamp")))
        self.assertEqual(b.shelf, (("zz", (term,) + IDLE[1:] + (("part", 2),)),))
        self.assertEqual((other.at(version=1), other.table(name="zz")), (b.at(1), b.table("zz")))
        self.assertEqual(other.led(name="zz", standing=(0, 7, 8, 9, 6)), b.led("zz", (0, 7, 8, 9, 6)))
        self.assertEqual((other.alike(name="zz", other="zz"), other.attempt(work=len)), (True, 1))

    def test_names_that_are_none(self):
        b = bench_of(5, a=RING)
        for name in (*NO_NAMES, *VALUES, b):
            if is_name(name):
                continue
            self.check_refused(b, Unfit, {}, b.add, name, RING)
            self.check_refused(b, Unfit, {}, b.add, name, ())
            self.check_refused(b, Unfit, {}, b.call, "a", name)
            for call, args in ((b.drop, ()), (b.call, ("b",)), (b.call, ("a",)), (b.call, (name,)), (b.put, (0, EMPTY[0])),
                               (b.put, (9, None)), (b.more, (EMPTY[0],)), (b.more, (None,)), (b.table, ()), (b.led, ((0, 0, 0, 0, 0),)),
                               (b.led, (None,)), (b.alike, ("a",)), (b.alike, ("b",))):
                self.check_refused(b, NoName, {}, call, name, *args)
                self.assertIs(raised(call, name, *args).given, name)
            self.check_refused(b, NoName, {}, b.alike, "a", name)
        for name in ("a", "b", "nona", "zzzzzzzz", "no", "nones", "on"):
            b = bench_of(5, c=RING)
            self.check_done(b, 2, b.add, name, IDLE)
            self.check_done(b, 3, b.call, "c", "x")
            self.check_done(b, 4, b.call, name, "c")

    def test_which_error_of_add_comes_first(self):
        b = bench_of(5, a=RING)
        self.check_refused(b, Unfit, {}, b.add, "none", ())
        self.check_refused(b, BadProgram, {"error": (0, "part")}, b.add, "a", (("part", 0),))
        self.check_refused(b, Taken, {"given": "a"}, b.add, "a", RING)
        for name in "bcdef":
            b.add(name, IDLE)
        self.check_refused(b, Unfit, {}, b.add, "A", ())
        self.check_refused(b, BadProgram, {"error": "form"}, b.add, "a", [RING])
        self.check_refused(b, BadProgram, {"error": "form"}, b.add, "g", [RING])
        self.check_refused(b, Taken, {"given": "f"}, b.add, "f", RING)
        self.check_refused(b, TooMany, {"limit": 6}, b.add, "g", RING)
        self.check_done(b, 7, b.call, "a", "g")
        self.check_done(b, 8, b.drop, "g")
        self.check_done(b, 9, b.add, "a", RING)

    def test_call(self):
        b = bench_of(5, a=RING, b=IDLE)
        self.check_refused(b, NoName, {"given": "c"}, b.call, "c", "none")
        self.check_refused(b, NoName, {"given": "c"}, b.call, "c", "a")
        self.check_refused(b, Unfit, {}, b.call, "a", "none")
        self.check_refused(b, Taken, {"given": "b"}, b.call, "a", "b")
        self.check_refused(b, Taken, {"given": "a"}, b.call, "a", "a")
        self.check_done(b, 3, b.call, "a", "z")
        self.assertEqual(b.shelf, (("b", IDLE), ("z", RING)))

    def test_put(self):
        b = bench_of(5, a=RING)
        for spot in (3, 4, -1, True, False, None, "0", (0,), [0], 10 ** 30, *VALUES):
            if not (type(spot) is int and spot in (0, 1, 2)):
                self.check_refused(b, Unfit, {}, b.put, "a", spot, EMPTY[0])
                self.check_refused(b, Unfit, {}, b.put, "a", spot, None)
        self.check_refused(b, NoName, {"given": "b"}, b.put, "b", 9, None)
        for spot in (0, 1, 2):
            for term, word in ((None, "term"), (("part", spot), "part"), (("do", ((0,), 1, 5)), "deed"), (("row", [RING[0]]), "many"),
                               (("times", EMPTY[0], -1), "times"), (("back", ("part", -1)), "part"), (RING, "term")):
                self.check_refused(b, BadProgram, {"error": (spot, word)}, b.put, "a", spot, term)
            self.check_done(b, spot + 2, b.put, "a", spot, EMPTY[0])
        self.assertEqual(b["a"], EMPTY * 3)
        b = bench_of(5, a=RING)
        self.check_done(b, 2, b.put, "a", 0, ("row", (RING[0], ("back", RING[1]))))

    def test_more(self):
        b = bench_of(5, a=RING)
        self.check_refused(b, NoName, {"given": "b"}, b.more, "b", None)
        for term, word in ((None, "term"), (("part", 3), "part"), (("part", True), "part"), (("times", EMPTY[0], True), "times")):
            self.check_refused(b, BadProgram, {"error": (3, word)}, b.more, "a", term)
        self.check_done(b, 2, b.more, "a", ("part", 2))
        self.check_done(b, 3, b.more, "a", ("part", 3))
        b = bench_of(5, a=EMPTY * 400, b=EMPTY * 399)
        self.check_refused(b, BadProgram, {"error": "form"}, b.more, "a", EMPTY[0])
        self.check_refused(b, BadProgram, {"error": "form"}, b.more, "a", None)
        self.check_done(b, 3, b.more, "b", ("part", 398))

    def test_values_of_all_kinds_in_each_place(self):
        b = bench_of(5, a=RING)
        for value in VALUES:
            error = program_error(5, value)
            self.check_refused(b, BadProgram, {"error": error}, b.add, "b", value)
            if value != EMPTY[0]:
                self.check_refused(b, BadProgram, {"error": program_error(5, (value,) + RING[1:])}, b.put, "a", 0, value)
                self.check_refused(b, BadProgram, {"error": program_error(5, RING + (value,))}, b.more, "a", value)
            if value != ():
                self.check_refused(b, BadBatch, {}, b.batch, value)
            self.check_refused(b, BadBatch, {}, b.batch, (value,))
            self.check_refused(b, BadBatch, {}, b.batch, ((value, "a"),))
            self.check_refused(b, Unfit, {}, b.led, "a", value)
        for deed in ((0,), (1, 2), ((0,), 1, 2, 3)):
            self.check_refused(b, BadProgram, {"error": (0, "deed")}, b.add, "b", (("do", deed),))

    def test_the_n_of_the_bench(self):
        for n in (3, 4, 5, 6):
            b = Bench(n)
            self.check_done(b, 1, b.add, "a", (("do", ((), 0, n - 1)),))
            self.check_refused(b, BadProgram, {"error": (0, "deed")}, b.add, "b", (("do", ((), 0, n)),))
            self.check_refused(b, BadProgram, {"error": (1, "deed")}, b.more, "a", ("do", ((n,), 0, 1)))

    def test_an_edit_that_leaves_the_shelf(self):
        b = bench_of(5, a=RING)
        self.assertEqual([b.put("a", 1, RING[1]), b.batch(()), b.version, b.log[1:]],
                         [2, 3, 3, (("put", "a", 1, RING[1]), ("batch", ()))])
        self.assertEqual(b.at(1), b.at(3))

    def test_what_was_returned_stays(self):
        b = bench_of(5, lamp=RING)
        told = (b.shelf, b.log, b.at(0), b.at(1), b["lamp"], list(b), b.table("lamp"))
        before = copy.deepcopy(told)
        names = iter(b)
        b.more("lamp", ("part", 0))
        b.add("a", IDLE)
        b.batch((("call", "lamp", "x"), ("drop", "a")))
        b.undo()
        self.assertEqual(told, before)
        self.assertEqual(list(names), ["lamp"])

    def test_what_is_handed_in_may_change_later(self):
        b = Bench(5)
        terms = [("do", DEED)]
        program = (("row", tuple(terms)),)
        b.add("a", program)
        terms.append(None)
        value = [1]
        self.assertIs(type(raised(b.put, "a", 0, value)), BadProgram)
        self.assertIs(type(raised(b.batch, (("more", "a", value),))), Rejected)
        self.assertEqual((b.log, value), ((("add", "a", program),), [1]))

    def test_forty_edits(self):
        b = bench_of(5, a=EMPTY)
        for version in range(2, 41):
            self.check_done(b, version, b.batch, ()) if version % 2 else self.check_done(b, version, b.more, "a", ("part", 0))
        for call, args in ((b.add, ("b", RING)), (b.drop, ("a",)), (b.call, ("a", "b")), (b.put, ("a", 0, EMPTY[0])),
                           (b.more, ("a", EMPTY[0])), (b.batch, ((),)), (b.batch, ((("drop", "a"),),))):
            self.check_refused(b, TooManyEdits, {}, call, *args)
        self.check_refused(b, Unfit, {}, b.add, "none", RING)
        self.check_refused(b, BadProgram, {"error": "form"}, b.add, "b", ())
        self.check_refused(b, Taken, {"given": "a"}, b.add, "a", RING)
        self.check_refused(b, NoName, {"given": "b"}, b.drop, "b")
        self.check_refused(b, Taken, {"given": "a"}, b.call, "a", "a")
        self.check_refused(b, Unfit, {}, b.put, "a", -1, EMPTY[0])
        self.check_refused(b, BadProgram, {"error": (21, "term")}, b.more, "a", 0)
        self.check_refused(b, BadBatch, {}, b.batch, [])
        self.check_refused(b, Rejected, {"place": 0}, b.batch, (("drop", "b"),))
        self.assertEqual([b.undo(), b.drop("a")], [39, 40])
        self.check_refused(b, TooManyEdits, {}, b.add, "a", RING)
        self.assertEqual([b.undo(), b.redo()], [39, 40])
        six = bench_of(5, **{name: EMPTY for name in "abcdef"})
        for _ in range(34):
            six.batch(())
        self.check_refused(six, TooMany, {"limit": 6}, six.add, "g", EMPTY)
        self.check_refused(six, TooManyEdits, {}, six.batch, ())


class BatchTest(BenchTest):
    def test_none_to_eight_parts_and_nine(self):
        for many in range(9):
            b = bench_of(5, a=RING)
            edits = (("more", "a", ("part", 0)),) * many
            self.check_done(b, 2, b.batch, edits)
            self.assertEqual((b["a"], b.log[1:]), (RING + (("part", 0),) * many, (("batch", edits),)))
            self.assertEqual((b.undo(), b["a"], b.redo()), (1, RING, 2))
        b = bench_of(5, a=RING)
        self.check_refused(b, BadBatch, {}, b.batch, (("more", "a", ("part", 0)),) * 9)
        self.check_refused(b, BadBatch, {}, b.batch, (None,) * 9)

    def test_each_word(self):
        b = Bench(5)
        edits = (("add", "a", RING), ("add", "b", IDLE), ("call", "a", "c"), ("put", "c", 0, EMPTY[0]), ("more", "c", ("part", 1)),
                 ("drop", "b"), ("call", "c", "b"), ("add", "c", GATE))
        self.check_done(b, 1, b.batch, edits)
        self.assertEqual(b.shelf, (("b", EMPTY + RING[1:] + (("part", 1),)), ("c", GATE)))
        self.assertEqual((b.log, b.at(0)), ((("batch", edits),), ()))

    def test_parts_that_are_none(self):
        b = bench_of(5, a=RING)
        right = ("drop", "a")
        for part in (None, (), "drop", ["drop", "a"], ("drop",), ("drop", "a", "a"), ("Drop", "a"), ("add", "b"), ("add", "b", RING, 0),
                     ("call", "a"), ("call", "a", "b", "c"), ("put", "a", 0), ("put", "a", 0, EMPTY[0], 0), ("more", "a"),
                     ("more", "a", EMPTY[0], 0), ("batch", ()), ("batch", (right,)), ("undo",), ("redo",), ("table", "a"),
                     ("copy",), ("", "a"), (0, "a"), (None, "a"), (("drop",), "a"), (["drop"], "a"), ({}, "a"), (True,), {"drop": "a"}, 0,
                     ("__len__",), ("led", "a", (0, 0, 0, 0, 0)), ("at", 0), ("attempt", len), ("none", "a"), b):
            for edits in ((part,), (right, part), (part, right), (("drop", "b"), part)):
                self.check_refused(b, BadBatch, {}, b.batch, edits)
        for edits in (None, [], [right], "drop", 0, {}, {right: 0}, right, (right,) * 9, True, b):
            self.check_refused(b, BadBatch, {}, b.batch, edits)

    def test_parts_that_are_refused(self):
        b = bench_of(5, a=RING)
        for wrong in (("add", "none", RING), ("add", "b", ()), ("add", "a", RING), ("drop", "b"), ("call", "a", "a"), ("call", "b", "c"),
                      ("put", "a", 3, EMPTY[0]), ("put", "a", 0, None), ("more", "a", ("part", 3)), ("drop", []), ("call", "a", {})):
            for ahead in range(8):
                edits = (("put", "a", 0, RING[0]),) * ahead + (wrong,)
                self.check_refused(b, Rejected, {"place": ahead}, b.batch, edits)
                if ahead < 7:
                    self.check_refused(b, Rejected, {"place": ahead}, b.batch, edits + (("drop", "x"),))
        edits = (("add", "b", RING), ("add", "c", RING), ("add", "d", RING), ("add", "e", RING), ("add", "f", RING), ("add", "g", RING))
        self.check_refused(b, Rejected, {"place": 5}, b.batch, edits)
        self.check_done(b, 2, b.batch, edits[:3] + (("drop", "a"),) + edits[3:])

    def test_parts_count_as_one_edit(self):
        b = bench_of(5, a=EMPTY)
        for _ in range(38):
            b.batch(())
        self.assertEqual(b.batch((("more", "a", EMPTY[0]),) * 8), 40)
        self.check_refused(b, TooManyEdits, {}, b.batch, (("more", "a", EMPTY[0]),) * 8)


class AskingTest(BenchTest):
    def test_table_led_and_alike(self):
        for n in (3, 4, 5, 6):
            for at in range(4):
                programs = some_programs(n, 5, 200 + at)
                b = bench_of(n, **dict(zip("abcde", programs)))
                for name, program in zip("abcde", programs):
                    table = table_of(n, program)
                    self.check_done(b, table, b.table, name)
                    for standing in standings(n):
                        self.check_done(b, led(n, table, standing), b.led, name, standing)
                    for name_too, other in zip("abcde", programs):
                        self.check_done(b, table == table_of(n, other), b.alike, name, name_too)

    def test_however_many_deeds(self):
        b = bench_of(5, far=FAR, ring=RING, long=joined(RING, FAR))
        self.assertEqual(b.table("far"), table_of(5, FAR))
        self.assertEqual((b.alike("long", "ring"), b.alike("far", "ring")), (True, False))
        self.assertEqual(b.led("long", (0, 7, 8, 9, 6)), (0, 9, 7, 8, 6))

    def test_standings_that_are_none(self):
        b = bench_of(5, a=RING)
        for standing in ((0, 7, 8, 9), (0, 7, 8, 9, 6, 5), (0, 7, 8, 9, 7), (0, 7, 8, 9, 100), (0, 7, 8, 9, -1), [0, 7, 8, 9, 6], "07896", None,
                         (0, 7, 8, 9, True), (), (0, 7, 8, 9, None), *VALUES):
            self.check_refused(b, Unfit, {}, b.led, "a", standing)
            self.check_refused(b, NoName, {"given": "b"}, b.led, "b", standing)
        self.check_refused(b, NoName, {"given": "x"}, b.alike, "x", "y")
        self.check_refused(b, NoName, {"given": "y"}, b.alike, "a", "y")
        self.assertEqual(b.made, 0)

    def test_large_programs(self):
        table = deeds_table(6, (1, 2), 9, chance_of(201))
        program = written(6, (1, 2), table)
        b = bench_of(6, a=program, b=backward(program))
        self.assertEqual(b.table("a"), table)
        self.assertFalse(b.alike("a", "b"))
        self.assertLessEqual(b.made, len(program) + 1)


class MadeTest(BenchTest):
    def check_made(self, b, *programs):
        """Check how many worths were worked out: those of all terms of programs."""
        self.assertEqual(b.made, len(set().union(*[worths_of(b.n, program) for program in programs])))

    def test_nothing_is_made_but_by_questions(self):
        b = bench_of(5, a=RING, b=IDLE)
        for call, args in ((b.put, ("a", 0, EMPTY[0])), (b.more, ("a", EMPTY[0])), (b.batch, ((),)), (b.call, ("a", "c")), (b.drop, ("b",))):
            call(*args)
            self.assertEqual((b.made, len(b.shelf), b.copy() == b, b["c" if "c" in b else "a"] is None), (0, len(b), True, False))
        self.assertEqual([b.undo(), b.redo(), b.at(2) is None, b.made], [6, 7, False, 0])

    def test_all_terms_those_too_that_are_not_used(self):
        b = bench_of(5, a=(RING[0], RING[1], IDLE[1], EMPTY[0]))
        b.table("a")
        self.assertEqual(b.made, 4)
        b.led("a", (0, 7, 8, 9, 6))
        self.assertEqual(b.made, 4)

    def test_worths_that_come_again(self):
        deed = ("do", DEED)
        b = bench_of(5, a=(deed, deed, ("part", 0), ("part", 1), ("row", (deed,)), ("part", 4)))
        b.table("a")
        self.assertEqual(b.made, 3)
        b.add("b", (deed, ("row", (deed, deed)), ("part", 0)))
        self.assertTrue(b.alike("b", "a"))
        self.assertEqual(b.made, 4)
        b.add("c", (("row", ()), ("part", 0), ("back", ("part", 1)), ("back", ("part", 0))))
        b.table("c")
        self.assertEqual(b.made, 7)

    def test_parts_with_other_tables(self):
        deed, other = ("do", DEED), ("do", ((1,), 2, 3))
        b = bench_of(5, a=(deed, ("times", ("part", 0), 3)), b=(other, ("times", ("part", 0), 3)))
        self.assertEqual([b.alike("a", "b"), b.made], [False, 4])
        b.put("a", 0, other)
        self.assertEqual([b.alike("a", "b"), b.made], [True, 4])
        b.put("a", 0, ("back", deed))
        self.assertEqual([b.alike("a", "b"), b.made], [False, 5])
        b.put("a", 1, ("times", ("part", 0), 2))
        self.assertEqual([b.alike("a", "b"), b.made], [False, 6])

    def test_called_otherwise_dropped_undone_and_copied(self):
        b = bench_of(5, a=RING)
        b.table("a")
        self.assertEqual(b.made, 3)
        b.call("a", "b")
        b.table("b")
        b.drop("b")
        b.add("c", RING)
        self.assertEqual([b.led("c", (0, 7, 8, 9, 6)), b.made], [(0, 9, 7, 8, 6), 3])
        b.more("c", ("part", 0))
        self.assertEqual([b.table("c") == deed_table(5, DEED), b.made, b.undo(), b.table("c") is None, b.made], [True, 4, 4, False, 4])
        other = b.copy()
        self.assertEqual((other.made, b.redo(), b.table("c"), b.made), (4, 5, deed_table(5, DEED), 4))
        other.add("d", IDLE)
        other.table("d")
        self.assertEqual((other.made, b.made), (6, 4))
        b.add("d", IDLE[:2])
        b.table("d")
        self.assertEqual((other.made, b.made), (6, 5))

    def test_copies_know_the_tables_of_parts(self):
        deed, other = ("do", DEED), ("do", ((1,), 2, 3))
        b = bench_of(5, a=(deed, other, ("times", ("part", 0), 3)), b=(other, ("times", ("part", 0), 3)), c=(deed, ("times", ("part", 0), 3)))
        b.table("a")
        again = b.copy()
        self.assertEqual((again.table("b"), again.made, again.table("c"), again.made), (deed_table(5, other[1]), 4, deed_table(5, DEED), 4))
        self.assertEqual((b.table("b"), b.made), (deed_table(5, other[1]), 4))

    def test_what_is_raised_makes_nothing(self):
        b = bench_of(5, a=RING)
        for call, args in ((b.led, ("a", None)), (b.alike, ("a", "b")), (b.alike, ("b", "a")), (b.table, ("b",)), (b.led, ("b", (0,) * 5))):
            self.assertIsInstance(raised(call, *args), RidersError)
            self.assertEqual(b.made, 0)

    def test_drawn_programs(self):
        for n in (3, 5, 6):
            programs = some_programs(n, 24, 210 + n)
            b, asked = Bench(n), []
            for program in programs:
                b.batch((("drop", "a"),) * len(b) + (("add", "a", program),))
                b.table("a")
                asked.append(program)
                self.check_made(b, *asked)
                self.assertLessEqual(len(worths_of(n, program)), len(program))

    def test_like_terms_that_are_unlike(self):
        deed = ("do", DEED)
        terms = (deed, ("back", deed), ("row", (deed,)), ("times", deed, 1), ("times", deed, 3), ("row", (("row", (deed,)),)), ("back", ("back", deed)),
                 ("part", 0), ("row", (("part", 0),)), ("times", ("part", 0), 1), ("back", ("part", 0)), ("part", 1))
        b = bench_of(5, a=terms)
        b.table("a")
        self.assertEqual(b.made, len(terms) - 1)
        self.check_made(b, terms)


class UndoTest(BenchTest):
    def test_along_all_edits_and_back(self):
        b = Bench(5)
        shelves = [b.shelf]
        for call, args in ((b.add, ("a", RING)), (b.add, ("b", IDLE)), (b.put, ("a", 0, EMPTY[0])), (b.call, ("a", "c")), (b.batch, ((),)),
                           (b.more, ("c", ("part", 1))), (b.batch, ((("drop", "b"), ("add", "d", GATE)),)), (b.drop, ("c",))):
            call(*args)
            shelves.append(b.shelf)
        log = b.log
        self.check_refused(b, NothingToRedo, {}, b.redo)
        for version in range(7, -1, -1):
            self.check_done(b, version, b.undo)
            self.assertEqual((b.shelf, b.log, b.version), (shelves[version], log[:version], version))
            self.assertEqual([b.at(earlier) for earlier in range(version + 1)], shelves[:version + 1])
            self.check_refused(b, NoVersion, {"given": version + 1}, b.at, version + 1)
            self.assertEqual(dict(shelves[version]), {name: b[name] for name in b})
        self.check_refused(b, NothingToUndo, {}, b.undo)
        for version in range(1, 9):
            self.check_done(b, version, b.redo)
            self.assertEqual((b.shelf, b.log, b.version), (shelves[version], log[:version], version))
        self.check_refused(b, NothingToRedo, {}, b.redo)

    def test_an_edit_forgets_what_was_taken_back(self):
        b = bench_of(5, a=RING, b=IDLE)
        b.undo()
        b.add("c", GATE)
        self.check_refused(b, NothingToRedo, {}, b.redo)
        self.assertEqual((b.log, b.shelf), ((("add", "a", RING), ("add", "c", GATE)), (("a", RING), ("c", GATE))))
        b.undo()
        b.undo()
        b.batch(())
        self.check_refused(b, NothingToRedo, {}, b.redo)
        self.assertEqual(b.shelf, ())

    def test_a_refused_edit_does_not(self):
        b = bench_of(5, a=RING, b=IDLE)
        b.undo()
        for call, args in ((b.add, ("a", RING)), (b.drop, ("b",)), (b.put, ("a", 5, None)), (b.more, ("a", None)), (b.batch, (None,)),
                           (b.batch, ((("drop", "b"),),)), (b.call, ("a", "a")), (b.led, ("a", None)), (b.at, (2,))):
            self.assertIsInstance(raised(call, *args), RidersError)
        self.assertEqual([b.table("a") is None, b.redo(), b["b"]], [False, 2, IDLE])

    def test_versions_that_are_none(self):
        b = bench_of(5, a=RING, b=IDLE)
        for version in (-1, 3, 40, 10 ** 30, True, False, None, "1", (1,), [1], {}, *VALUES, b):
            if not (type(version) is int and version in (0, 1, 2)):
                self.check_refused(b, NoVersion, {}, b.at, version)
                self.assertIs(raised(b.at, version).given, version)
        self.assertEqual([b.at(0), b.at(1), b.at(2)], [(), (("a", RING),), b.shelf])

    def test_copies_go_on_by_themselves(self):
        b = bench_of(5, a=RING, b=IDLE)
        b.table("a")
        b.undo()
        other = b.copy()
        self.assertIs(type(other), Bench)
        self.assertEqual((state(other), other.made, other == b, other is b), (state(b), b.made, True, False))
        self.assertEqual([other.redo(), b.version, other == b], [2, 1, False])
        b.drop("a")
        self.assertEqual((other["a"], b.shelf, other.version), (RING, (), 2))
        self.check_refused(b, NothingToRedo, {}, b.redo)
        self.assertEqual([other.undo(), other.undo(), other.version, b.version], [1, 0, 0, 2])
        self.assertEqual([b.undo(), b["a"]], [1, RING])
        third = other.copy()
        self.assertEqual([third.redo(), third.redo(), other.version], [1, 2, 0])
        third.table("b")
        self.assertEqual((third.made > other.made, other.made), (True, 3))

    def test_forty_and_copies(self):
        b = bench_of(5, a=RING)
        for _ in range(39):
            b.batch(())
        other = b.copy()
        self.check_refused(other, TooManyEdits, {}, other.batch, ())
        other.undo()
        self.assertEqual((other.batch((("drop", "a"),)), b["a"]), (40, RING))


class AttemptTest(BenchTest):
    def test_work_that_returns(self):
        b = Bench(5)
        for result in (None, True, 7, "x", (1,), [1]):
            found = b.attempt(lambda bench: result)
            self.assertIs(found, result)
        self.assertIs(b.attempt(lambda bench: bench), b)
        self.assertEqual((b.attempt(lambda bench: bench.add("a", RING)), b.shelf), (1, (("a", RING),)))
        self.assertEqual((b.attempt(lambda bench: bench.undo()), b.attempt(lambda bench: bench.redo())), (0, 1))

    def test_each_error_of_the_package(self):
        import keyriders.errors as errors
        made = [getattr(errors, name)() for name in PLAIN] + [getattr(errors, name)(["x"]) for name in WITH_ARGUMENT]
        for error in made + [RidersError("x"), type("Own", (NoName,), {})("x")]:
            b = bench_of(5, a=RING, b=IDLE, c=GATE)
            b.undo()
            before, copied = state(b), b.copy()

            def work(bench):
                bench.add("d", GATE)
                bench.drop("a")
                bench.table("b")
                bench.undo()
                raise error

            self.assertIs(raised(b.attempt, work), error)
            self.assertEqual((state(b), b == copied, b.made), (before, True, 3))
            self.assertEqual([b.redo(), b["c"]], [3, GATE])

    def test_errors_of_its_own_methods(self):
        b = bench_of(5, a=RING)

        def work(bench):
            bench.more("a", ("part", 0))
            bench.drop("a")
            return bench["a"]

        error = raised(b.attempt, work)
        self.assertEqual((type(error), error.given, b.shelf, b.version), (NoName, "a", (("a", RING),), 1))
        self.assertIs(type(raised(b.attempt, lambda bench: [bench.undo(), bench.undo()])), NothingToUndo)
        self.assertEqual((b.version, b.shelf), (1, (("a", RING),)))
        self.assertIs(type(raised(b.attempt, lambda bench: [bench.undo(), bench.redo(), bench.redo()])), NothingToRedo)
        self.assertIs(type(raised(b.attempt, lambda bench: written(5, (3,), deed_table(5, DEED)))), Barred)
        self.check_refused(b, NothingToRedo, {}, b.redo)

    def test_what_was_taken_back_within_stays_so(self):
        b = bench_of(5, a=RING, b=IDLE)
        b.undo()
        self.assertIs(type(raised(b.attempt, lambda bench: [bench.redo(), bench.at(9)])), NoVersion)
        self.assertEqual((b.version, b.redo(), b["b"]), (1, 2, IDLE))
        b.undo()
        self.assertIs(type(raised(b.attempt, lambda bench: [bench.add("z", GATE), bench.undo(), bench.at(9)])), NoVersion)
        self.assertEqual((b.version, b.redo(), b["b"]), (1, 2, IDLE))

    def test_another_error(self):
        for error in (ValueError("x"), KeyError("x"), TypeError(), RuntimeError(), StopIteration(), AttributeError("x"), Exception()):
            b = bench_of(5, a=RING)

            def work(bench):
                bench.add("b", IDLE)
                bench.drop("a")
                raise error

            self.assertIs(raised(b.attempt, work), error)
            self.assertEqual((b.shelf, b.version), ((("b", IDLE),), 3))
        self.assertIs(type(raised(b.attempt, None)), TypeError)
        self.assertEqual(b.version, 3)

    def test_within_one_another(self):
        b = bench_of(5, a=RING)

        def inner(bench):
            bench.add("c", GATE)
            raise Unfit()

        def outer(bench):
            bench.add("b", IDLE)
            self.assertIs(type(raised(bench.attempt, inner)), Unfit)
            self.assertEqual(list(bench), ["a", "b"])
            return bench.version

        self.assertEqual((b.attempt(outer), list(b)), (2, ["a", "b"]))

        def failing(bench):
            bench.drop("b")
            bench.attempt(lambda again: again.drop("a"))
            self.assertEqual(list(bench), [])
            bench.attempt(inner)

        self.assertIs(type(raised(b.attempt, failing)), Unfit)
        self.assertEqual((list(b), b.version, b.log[1:]), (["a", "b"], 2, (("add", "b", IDLE),)))

        def mixed(bench):
            bench.drop("b")
            bench.attempt(lambda again: [again.drop("a"), [][1]])

        self.assertIs(type(raised(b.attempt, mixed)), IndexError)
        self.assertEqual((list(b), b.version), ([], 4))

    def test_worths_stay(self):
        b = bench_of(5, a=RING)
        self.assertIs(type(raised(b.attempt, lambda bench: [bench.add("b", IDLE), bench.table("b"), bench.drop("x")])), NoName)
        self.assertEqual((b.made, list(b)), (3, ["a"]))

    def test_forty_edits_within(self):
        b = bench_of(5, a=EMPTY)
        self.assertIs(type(raised(b.attempt, lambda bench: [bench.more("a", EMPTY[0]) for _ in range(40)])), TooManyEdits)
        self.assertEqual((b.version, b["a"]), (1, EMPTY))


class ModelTest(BenchTest):
    """Drawn calls, in rows, against a model."""

    def drawn_term(self, n, chance):
        deed = ("do", chance.choice(all_deeds(n)))
        return chance.choice((
            deed, deed, ("part", chance.randrange(3)), ("back", ("part", 0)), ("times", ("part", 0), chance.randrange(4)), ("row", (deed, deed)),
            ("row", (("part", 0), deed, ("part", 1))), ("row", ()), ("part", -1), ("do", ((0,), 0, 1)), None, ("times", deed, True),
        ))

    def drawn_program(self, n, chance):
        return tuple([self.drawn_term(n, chance) for _ in range(chance.choice((0, 1, 1, 2, 2, 3)))])

    def drawn_edit(self, n, chance, deep=True):
        name, other = chance.choices(("a", "b", "c", "d", "e", "f", "g", "none", "A", 0), weights=(9, 9, 9, 4, 4, 4, 4, 1, 1, 1), k=2)
        word = chance.choice(("add", "add", "add", "drop", "call", "put", "put", "more", "more") + ("batch", "batch") * deep)
        if word == "batch":
            edits = tuple([self.drawn_edit(n, chance, False) for _ in range(chance.choice((0, 1, 1, 2, 2, 3, 9)))])
            return ("batch", chance.choice((edits, edits, edits, edits, list(edits), edits + (("batch", ()),))))
        args = {"add": (self.drawn_program(n, chance),), "drop": (), "call": (other,), "more": (self.drawn_term(n, chance),),
                "put": (chance.choice((0, 0, 1, 2, -1, True)), self.drawn_term(n, chance))}
        return (word, name) + args[word]

    def test_drawn_calls(self):
        for n, seeds in ((3, 30), (4, 12), (5, 12), (6, 6)):
            for seed in range(seeds):
                chance = random.Random(seed)
                b, model = Bench(n), Model(n)
                for _ in range(90):
                    self.step(b, model, n, chance)
                    self.assertEqual((state(b), b.made), (model.shown(), len(model.worths)))
                again = Bench(n)
                for word, *args in b.log:
                    getattr(again, word)(*args)
                self.assertEqual((again == b, again.version, b.at(b.version)), (True, b.version, b.shelf))

    def step(self, b, model, n, chance):
        """Do one drawn call to both."""
        kind = chance.choice(("edit", "edit", "edit", "edit", "undo", "redo", "table", "led", "alike"))
        names = chance.choices(("a", "b", "c", "d", "x"), k=2)
        if kind == "edit":
            word, *args = self.drawn_edit(n, chance)
            self.compare(model.edit(word, *args), getattr(b, word), *args)
        elif kind == "undo":
            self.compare(model.step(-1), b.undo)
        elif kind == "redo":
            self.compare(model.step(1), b.redo)
        elif kind == "table":
            told = model.ask(names[0]) or table_of(n, model.shelf()[names[0]])
            self.compare(told, b.table, names[0])
        elif kind == "led":
            standing = chance.choice(standings(n))
            told = model.ask(names[0]) or led(n, table_of(n, model.shelf()[names[0]]), standing)
            self.compare(told, b.led, names[0], standing)
        else:
            told = model.ask(*names)
            if told is None:
                told = table_of(n, model.shelf()[names[0]]) == table_of(n, model.shelf()[names[1]])
            self.compare(told, b.alike, *names)

    def compare(self, told, call, *args):
        """Check what a call returns or raises against what the model tells."""
        before = copy.deepcopy(args)
        if isinstance(told, Error):
            error = raised(call, *args)
            self.assertEqual((type(error).__name__, vars(error)), told.told)
        else:
            self.assertEqual(kinds_within(call(*args)), kinds_within(told))
        self.assertEqual(args, before)

    def test_made_is_never_less_and_never_more_than_the_terms(self):
        chance = random.Random(300)
        for n in (3, 5):
            b = Bench(n)
            for _ in range(200):
                before = b.made
                word, *args = self.drawn_edit(n, chance)
                raised(getattr(b, word), *args)
                self.assertEqual(b.made, before)
                if b.version == 40:
                    for _ in range(30):
                        b.undo()
                for name in b:
                    before = b.made
                    b.table(name)
                    self.assertIn(b.made - before, range(len(b[name]) + 1))


class UnlikeTest(BenchTest):
    def test_benches_of_unlike_n(self):
        for n, other in ((3, 4), (4, 5), (5, 6)):
            one, further = bench_of(n, a=GATE), bench_of(other, a=GATE)
            self.assertEqual((one == further, one != further, one.shelf == further.shelf), (False, True, True))
            self.assertEqual((len(one.table("a")), len(further.table("a"))), (2 ** n, 2 ** other))
            self.assertEqual((one.made, further.made), (1, 1))

    def test_two_of_one_n_do_not_share(self):
        one, other = Bench(5), Bench(5)
        one.add("a", RING)
        one.table("a")
        self.assertEqual((state(other), other.made), ((5, (), 0, (), 0, [], [()]), 0))
        self.assertEqual(len(all_lots(5)), len(one.table("a")))
