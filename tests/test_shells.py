"""[H6]."""

import random
import re
import unittest

from keyriders.benches import Bench
from keyriders.errors import BadText, RidersError, Unfit
from keyriders.programs import kinds_of, length
from keyriders.programtexts import program_text, read_program
from keyriders.shells import Shell
from keyriders.standingtexts import read_standing, standing_text
from keyriders.writing import written
from tests.helper import VALUES, raised, within
from tests.tabled import chance_of, deeds_table
from tests.test_benches import DEED, EMPTY, GATE
from tests.test_programs import FAR, IDLE, RING, some_programs

NAME = "([^ ]+)"
FORMS = {
    "add": f"add {NAME} (.*)", "drop": f"drop {NAME}", "call": f"call {NAME} {NAME}", "undo": "undo", "redo": "redo", "names": "names",
    "show": f"show {NAME}", "length": f"length {NAME}", "kinds": f"kinds {NAME}", "led": f"led {NAME} (.*)", "alike": f"alike {NAME} {NAME}",
    "made": "made",
}


def told_by(b, line):
    """Return the answer to a line, for a bench that is kept beside the shell."""
    for word, form in FORMS.items():
        found = re.fullmatch(form, line, re.DOTALL) if isinstance(line, str) else None
        if found:
            return answer_of(b, word, *found.groups())
    return "what"


def answer_of(b, word, *args):
    try:
        if word == "add":
            args = (args[0], read_program(b.n, args[1]))
        if word == "led":
            args = (args[0], read_standing(b.n, args[1]))
    except BadText:
        return "what"
    try:
        if word in ("add", "drop", "call", "undo", "redo"):
            return f"version {getattr(b, word)(*args)}"
        if word == "names":
            return " ".join(b) or "none"
        if word == "made":
            return str(b.made)
        if word == "led":
            return standing_text(b.led(*args))
        if word == "alike":
            return "yes" if b.alike(*args) else "no"
        program = b[args[0]]
        return {"show": program_text(program), "kinds": " ".join(map(str, kinds_of(program))) or "none"}.get(word) or str(length(program))
    except RidersError as error:
        return "error " + type(error).__name__


class ShellTest(unittest.TestCase):
    def check(self, s, *pairs):
        for line, told in pairs:
            found = s.say(line)
            self.assertEqual((type(found), found), (str, told), line)

    def shell_of(self, n, **programs):
        s = Shell(n)
        for at, (name, program) in enumerate(programs.items()):
            self.check(s, (f"add {name} {program_text(program)}", f"version {at + 1}"))
        return s

    def test_the_examples(self):
        s = Shell(3)
        self.check(s, ("names", "none"), ("add gate " + program_text(GATE), "version 1"), ("show gate", program_text(GATE)),
                   ("length gate", "1"), ("kinds gate", "1"), ("led gate 0 0 7", "0 7 0"), ("led gate 0 0", "what"),
                   ("led lamp 0 0 7", "error NoName"), ("alike gate gate", "yes"), ("made", "1"), ("call gate gate", "error Taken"),
                   ("undo", "version 0"), ("undo", "error NothingToUndo"), ("drop", "what"), (7, "what"))

    def test_n_that_is_none(self):
        for n in (2, 7, True, None, "3", 10 ** 30, *VALUES):
            if type(n) is not int or n not in (3, 4, 5, 6):
                self.assertIs(type(raised(Shell, n)), Unfit)
        for n in (3, 4, 5, 6):
            self.check(Shell(n=n), (f"add a :0-{n - 1}", "version 1"), (f"add b :0-{n}", "what"))
            self.assertEqual(Shell(n).say(line="names"), "none")

    def test_say_is_defined_in_the_class(self):
        self.assertTrue(callable(vars(Shell)["say"]))

    def test_edits(self):
        s = self.shell_of(5, ring=RING, a=IDLE)
        self.check(s, ("names", "a ring"), ("call a zz", "version 3"), ("names", "ring zz"), ("drop ring", "version 4"), ("undo", "version 3"),
                   ("redo", "version 4"), ("redo", "error NothingToRedo"), ("add none 0:1-2", "error Unfit"), ("add A 0:1-2", "error Unfit"),
                   ("add zz 0:1-2", "error Taken"), ("drop x", "error NoName"), ("call x y", "error NoName"), ("call zz none", "error Unfit"),
                   ("call zz Zz", "error Unfit"), ("call zz zz", "error Taken"), ("add abcdefghi ()", "error Unfit"), ("undo", "version 3"),
                   ("add b ()", "version 4"), ("redo", "error NothingToRedo"), ("names", "b ring zz"))

    def test_six_names_and_forty_edits(self):
        s = self.shell_of(5, a=EMPTY, b=EMPTY, c=EMPTY, d=EMPTY, e=EMPTY, f=EMPTY)
        self.check(s, ("add g ()", "error TooMany"), ("add f ()", "error Taken"), ("names", "a b c d e f"))
        for version in range(7, 41):
            self.check(s, ("call a g" if version % 2 else "call g a", f"version {version}"))
        self.check(s, ("drop a", "error TooManyEdits"), ("drop x", "error NoName"), ("add x 0", "what"), ("undo", "version 39"), ("drop a", "error NoName"),
                   ("drop g", "version 40"), ("names", "b c d e f"))

    def test_questions(self):
        s = self.shell_of(5, ring=RING, idle=IDLE, far=FAR, nought=EMPTY, two=(("row", (("do", ((0, 1), 2, 3)), ("do", ((), 0, 1)))),))
        self.check(s, ("made", "0"), ("show ring", "0:1-2;0:2-3;2*(#0 #1)"), ("length ring", "4"), ("kinds ring", "1"), ("show nought", "()"),
                   ("length nought", "0"), ("kinds nought", "none"), ("length far", "error TooMany"), ("kinds far", "1"), ("kinds idle", "0"),
                   ("kinds two", "0 2"), ("length two", "2"), ("show far", program_text(FAR)), ("made", "0"), ("led ring 0 7 8 9 6", "0 9 7 8 6"),
                   ("made", "3"), ("alike ring idle", "no"), ("made", "5"), ("alike far nought", "yes"), ("led two 0 0 7 8 9", "0 0 8 7 9"),
                   ("led nought 99 0 1 2 3", "99 0 1 2 3"), ("show x", "error NoName"), ("length x", "error NoName"), ("kinds x", "error NoName"),
                   ("alike ring x", "error NoName"), ("alike x ring", "error NoName"), ("led x 0 0 0 0 0", "error NoName"), ("show none", "error NoName"),
                   ("length 7", "error NoName"), ("kinds Ring", "error NoName"), ("show ring\n", "error NoName"))
        s = self.shell_of(5, long=FAR[:11])
        self.check(s, ("length long", "1" + "0" * 300))

    def test_blanks_more_and_less(self):
        right = ("add b ()", "drop a", "call a c", "undo", "redo", "names", "show a", "length a", "kinds a", "led a 0 7 8 9 6", "alike a a", "made")
        for line in right:
            s = self.shell_of(5, a=RING)
            b = Bench(5)
            b.add("a", RING)
            for at in range(len(line) + 1):
                wrong = line[:at] + " " + line[at:]
                self.check(s, (wrong, told_by(b, wrong)))
                if 0 == at or at == len(line) or line[at:at + 1] == " ":
                    self.assertEqual(s.say(wrong), "what", wrong)
                if line[at:at + 1] == " ":
                    less = line[:at] + line[at + 1:]
                    self.check(s, (less, told_by(b, less)))
            for wrong in (" " + line, line + " ", "  " + line, line + "  ", line.replace(" ", "  "), line.replace(" ", "\n"), line.replace(" ", "\t"),
                          "\n" + line, line.upper(), line.title(), line + "x x", line + " x"):
                self.check(s, (wrong, told_by(b, wrong)))
            self.check(s, ("names", told_by(b, "names")))

    def test_words_that_are_none(self):
        s = self.shell_of(5, a=RING)
        for line in ("", " ", "  ", "\n", "put a 0 ()", "more a ()", "batch ()", "table a", "at 0", "copy", "attempt", "log", "shelf", "version", "n", "say",
                     "names\n", "Names", "NAMES", "name", "names a", "undo a", "undo 1", "redo redo", "made made", "undoredo", "show", "show ", "show a a",
                     "show  a", " show a", "show a ", "drop a b", "drop", "drop ", "call a", "call a ", "call  a b", "call a  b", "call a b c", "call a b ",
                     "alike a", "alike a ", "alike a a a", "led a", "led a ", "led", "led  0 0 0 0 0", "add", "add b", "add b ", "add  ()", "add ()", "length",
                     "kinds", "length a b", "kinds a b", "error", "what", "version 1", "none", "a", "add\nb ()", "what\n", "x" * 20000, " " * 20000):
            self.check(s, (line, "what"))
        self.check(s, ("names", "a"), ("made", "0"))

    def test_texts_that_are_none(self):
        s = self.shell_of(5, a=RING)
        for text in ("0:1-2;", ";0:1-2", "0:1-2; #0", "0:1 -2", "02*:0-1", "0:01-2", "0:1-5", "5:0-1", "0:2-1", "0:0-1", "#0", "0:1-2;#1", "( )", "(", ")", "~",
                     "()\n", "\n()", " ()", "() ", "x", "0", "", ",0:1-2", "0,0:1-2", "1,0:2-3", "*()", "-1*()", "1" + "0" * 31 + "*()", "(0:1-2  0:1-2)",
                     "(" * 6000 + ")" * 6000, "~" * 12 + "()", "~" * 20000, "(" * 20000, "9" * 20000, "9" * 19000 + "*()", "#" + "1" * 19000, "0:1-" + "2" * 19000,
                     ";".join(["()"] * 401), "(" + " ".join(["()"] * 401) + ")", "0:1-2,", "0:1-2#0", "0:1-2 0:1-2"):
            for name in ("b", "none", "a", "B"):
                with within(5):
                    self.check(s, (f"add {name} {text}", "what"))
        for text in ("0:1-2", "()", "~" * 11 + "()", ":0-4", "0,1,2:3-4", "1000000000000000000000000000000*()", "0*~()", ";".join(["()"] * 400),
                     "(" + " ".join(["()"] * 400) + ")", "0:1-2;(#0 #0)"):
            self.check(s, (f"add b {text}", "version 2"), ("show b", text), ("undo", "version 1"), (f"add none {text}", "error Unfit"),
                       (f"add a {text}", "error Taken"))

    def test_standings_that_are_none(self):
        s = self.shell_of(5, a=RING)
        for text in ("0 7 8 9", "0 7 8 9 6 5", "0 7 8 9 7", "0 7 8 9 100", "0 7 8 9 06", "00 7 8 9 6", "0 7 8 9 -6", "0  7 8 9 6", " 0 7 8 9 6", "0 7 8 9 6 ",
                     "0 7 8 9 6\n", "0\n7 8 9 6", "0,7,8,9,6", "", "x", "0 7 8 9 x", "+0 7 8 9 6", "0 7 8 9 6.0", "7" * 20000, "0 " * 9999):
            for name in ("a", "x", "none"):
                self.check(s, (f"led {name} {text}", "what"))
        self.check(s, ("made", "0"), ("led x 0 7 8 9 6", "error NoName"), ("made", "0"), ("led a 0 7 8 9 6", "0 9 7 8 6"), ("led a 5 7 8 9 6", "5 7 8 9 6"),
                   ("led a 0 0 0 0 0", "0 0 0 0 0"), ("led a 0 99 0 1 0", "0 1 99 0 0"))

    def test_names_that_are_none(self):
        s = self.shell_of(5, a=RING)
        for name in ("none", "A", "aB", "abcdefghi", "1", "a1", "\n", "a\n", "\na", "a_b", "()", "#0", "-", "x" * 19000, "\t", "a\tb", ",", "add"):
            if name != "add":
                self.check(s, (f"add {name} ()", "error Unfit"), (f"call a {name}", "error Unfit"))
            for line in (f"drop {name}", f"show {name}", f"length {name}", f"kinds {name}", f"led {name} 0 0 0 0 0", f"alike {name} a", f"alike a {name}",
                         f"call {name} b", f"call {name} none"):
                self.check(s, (line, "error NoName"))
        self.check(s, ("names", "a"), ("add add ()", "version 2"), ("show add", "()"), ("add names 0:1-2", "version 3"), ("names", "a add names"))

    def test_values_that_are_no_string(self):
        s = self.shell_of(5, a=RING)
        for value in (*VALUES, b"names", ["names"], ("names",), Bench(5), Shell(5), str, None):
            if not isinstance(value, str):
                self.check(s, (value, "what"))
            else:
                self.check(s, (value, told_by(Bench(5), value)))

    def test_two_shells_beside_one_another(self):
        one, other = Shell(5), Shell(5)
        self.check(one, ("add a 0:1-2", "version 1"), ("alike a a", "yes"), ("made", "1"))
        self.check(other, ("names", "none"), ("made", "0"), ("undo", "error NothingToUndo"), ("add b ()", "version 1"), ("add c ()", "version 2"))
        self.check(one, ("names", "a"), ("add b :0-1", "version 2"), ("show b", ":0-1"))
        self.check(other, ("show b", "()"), ("show a", "error NoName"), ("made", "0"))

    def test_what_is_written(self):
        for n in (5, 6):
            table = deeds_table(n, (1, 2), 6, chance_of(400, n))
            program = written(n, (1, 2), table)
            s = self.shell_of(n, a=program)
            self.check(s, ("show a", program_text(program)), ("length a", str(length(program))), ("kinds a", " ".join(map(str, kinds_of(program)))))

    def test_drawn_lines(self):
        for n in (3, 5, 6):
            for seed in range(20):
                chance = random.Random(seed)
                s, b = Shell(n), Bench(n)
                texts = [program_text(program) for program in some_programs(n, 8, seed)] + [program_text((("do", DEED),)), "x", "()", "#0"]
                for _ in range(120):
                    line = self.drawn_line(n, chance, texts)
                    self.check(s, (line, told_by(b, line)))

    def drawn_line(self, n, chance, texts):
        names = chance.choices(("a", "b", "c", "d", "none", "A", ""), weights=(9, 9, 9, 6, 1, 1, 1), k=2)
        word = chance.choice(tuple(FORMS) + ("add",) * 8)
        standing = " ".join([str(chance.choice((0, 0, 10 + place))) for place in range(chance.choice((n, n, n, n - 1)))])
        rests = {"add": [names[0], chance.choice(texts)], "call": names, "alike": names, "led": [names[0], standing]}
        alone = word in ("undo", "redo", "names", "made")
        line = " ".join([word] + ([] if alone else rests.get(word, names[:1])))
        if chance.random() < 0.1:
            at = chance.randrange(len(line) + 1)
            line = line[:at] + chance.choice((" ", "\n", "a", "0")) + line[at:]
        return line
