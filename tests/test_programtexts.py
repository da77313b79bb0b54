"""[B7], and what [B8] says of the texts of programs."""

import random
import re
import unittest

from keyriders.errors import BadText
from keyriders.programs import backward, joined, program_error
from keyriders.programtexts import program_text, read_program
from tests.helper import VALUES, check_call, check_raise, nested, within
from tests.test_deeds import all_deeds
from tests.test_programs import FAR, IDLE, MANY, RING, some_programs

SIGNS = "0123459,:-*#~(); \n+a"


def meant(n, text):
    """Return the program of n of which a text is the text, None if there is none.

    The texts of terms are folded from within: each term that is found gives way to "<", its number, ">".
    """
    if re.search(r"[^0-9,:*#~(); -]", text):
        return None
    program = tuple([_folded(part) for part in text.split(";")])
    return None if program_error(n, program) is not None else program


def _folded(text):
    """Return the term of which a text is the text, None if there is none."""
    terms = []

    def kept(term):
        terms.append(term)
        return f"<{len(terms) - 1}>"

    def of_deed(found):
        lot, a, b = found.groups()
        return kept(("do", (tuple([_number(word) for word in lot.split(",")]) if lot else (), _number(a), _number(b))))

    def of_row(found):
        return kept(("row", tuple([terms[int(word)] for word in re.findall("[0-9]+", found.group())])))

    text = re.sub("((?:[0-9]+(?:,[0-9]+)*)?):([0-9]+)-([0-9]+)", of_deed, text)
    text = re.sub("#([0-9]+)", lambda found: kept(("part", _number(found.group(1)))), text)
    before = None
    while text != before:
        before = text
        text = re.sub("~<([0-9]+)>", lambda found: kept(("back", terms[int(found.group(1))])), text)
        text = re.sub("([0-9]+)[*]<([0-9]+)>",
                      lambda found: kept(("times", terms[int(found.group(2))], _number(found.group(1)))), text)
        text = re.sub("[(](<[0-9]+>( <[0-9]+>)*)?[)]", of_row, text)
    whole = re.fullmatch("<([0-9]+)>", text)
    return terms[int(whole.group(1))] if whole else None


def _number(word):
    """Return the number that a word tells, None if it is no plain one."""
    return int(word) if len(word) < 40 and str(int(word)) == word else None


def spoilt(text):
    """Return the texts that come of a text by one sign left out, put in, changed or doubled."""
    found = []
    for spot in range(len(text) + 1):
        for sign in SIGNS:
            found += [text[:spot] + sign + text[spot:], text[:spot] + sign + text[spot + 1:]]
        found += [text[:spot] + text[spot + 1:], text[:spot] + text[spot:spot + 1] + text[spot:]]
    return found


class ProgramTextTest(unittest.TestCase):
    def check(self, n, program, text):
        """Check the text of a program, there and back."""
        self.assertIsNone(program_error(n, program))
        self.assertEqual(check_call(self, program_text, program=program), text)
        self.assertEqual(check_call(self, read_program, n=n, value=text), program)

    def check_bad(self, n, *values):
        for value in values:
            check_raise(self, read_program, BadText, {}, n=n, value=value)

    def read_or_none(self, n, value):
        try:
            return read_program(n, value)
        except BadText as error:
            self.assertIs(type(error), BadText)
            return None

    def test_the_examples(self):
        self.assertEqual(program_text(RING), "0:1-2;0:2-3;2*(#0 #1)")
        self.assertEqual(program_text(IDLE), "0:1-2;:0-1;(0*#0 ~#1)")
        self.assertEqual(program_text((("do", ((0, 1, 3), 2, 4)),)), "0,1,3:2-4")
        self.assertEqual(read_program(5, "0:1-2;0:2-3;2*(#0 #1)"), RING)
        self.assertEqual(read_program(5, "()"), (("row", ()),))
        self.assertEqual(read_program(5, "~3*:0-4"), (("back", ("times", ("do", ((), 0, 4)), 3)),))
        self.assertEqual(program_text(read_program(5, "~" * 11 + "()")), "~" * 11 + "()")
        self.check_bad(5, "~" * 12 + "()")
        self.check_bad(3, "0:1-2;0:2-3")
        self.check_bad(5, "0:1-2; #0", "02*:0-1")

    def test_terms_of_each_word(self):
        for term, text in (
            (("do", ((), 0, 1)), ":0-1"), (("do", ((4,), 0, 1)), "4:0-1"), (("do", ((0, 2, 4), 1, 3)), "0,2,4:1-3"),
            (("row", ()), "()"), (("row", (("row", ()),)), "(())"), (("row", (("row", ()), ("row", ()))), "(() ())"),
            (("row", (RING[0],)), "(0:1-2)"), (("row", (RING[0], RING[1], ("part", 0))), "(0:1-2 0:2-3 #0)"),
            (("back", ("part", 0)), "~#0"), (("back", ("back", ("row", ()))), "~~()"), (("part", 0), "#0"),
            (("times", ("part", 0), 0), "0*#0"), (("times", ("part", 0), 1), "1*#0"),
            (("times", ("do", ((), 0, 1)), 10), "10*:0-1"), (("times", ("do", ((1, 2), 0, 3)), 10), "10*1,2:0-3"),
            (("times", ("times", ("back", ("times", ("row", ()), 2)), 30), MANY), "1" + "0" * 30 + "*30*~2*()"),
            (("back", ("times", ("row", (("back", ("part", 0)), ("times", ("part", 0), 7))), 7)), "~7*(~#0 7*#0)"),
        ):
            self.check(5, (RING[0], term), "0:1-2;" + text)
            self.check(5, (RING[0], term, ("row", (term, term))), f"0:1-2;{text};({text} {text})")

    def test_all_deeds(self):
        for n in (3, 4, 5):
            for lot, a, b in all_deeds(n):
                text = ",".join(map(str, lot)) + f":{a}-{b}"
                self.check(n, (("do", (lot, a, b)),), text)
                self.assertEqual(self.read_or_none(n - 1 if n > 3 else 24, text) is None, n > 3 and n - 1 in lot + (b,))
        lot = tuple(range(22))
        self.check(24, (("do", (lot, 22, 23)),), ",".join(map(str, lot)) + ":22-23")
        self.check(24, (("do", ((10, 23), 0, 11)),), "10,23:0-11")

    def test_there_and_back(self):
        texts = {}
        for n, seed in ((3, 31), (4, 32), (5, 33), (24, 34)):
            for program in some_programs(min(n, 6), 150, seed):
                text = check_call(self, program_text, program=program)
                self.assertEqual(check_call(self, read_program, n=n, value=text), program)
                self.assertEqual(texts.setdefault(text, program), program)
                self.assertEqual(meant(n, text), program)
        for program in (joined(RING, IDLE), backward(joined(IDLE, RING)), FAR, joined(FAR, FAR)):
            self.assertEqual(read_program(5, program_text(program)), program)

    def test_each_sign_left_out_put_in_changed_and_doubled(self):
        programs = [RING, IDLE, (("do", ((0, 1, 3), 2, 4)),), FAR[:3], (("row", ()), ("part", 0)),
                    (("back", ("times", ("row", (("row", ()), ("back", ("do", ((), 0, 4))))), 12)),)]
        for program in programs + some_programs(5, 12, 35):
            text = program_text(program)
            if len(text) > 150:
                continue
            for value in spoilt(text):
                found = self.read_or_none(5, value)
                self.assertEqual(found, meant(5, value), value)
                if found is not None:
                    self.assertEqual(program_text(found), value)

    def test_pieces_in_any_order(self):
        chance = random.Random(36)
        pieces = ("0:1-2", ":0-1", "#0", "#1", "(", ")", "()", " ", "~", "2*", "0", ";", ":0-1;", "1,2", ":", "-", "*")
        read = 0
        for _ in range(20000):
            value = "".join([chance.choice(pieces) for _ in range(chance.randrange(1, 7))])
            found = self.read_or_none(5, value)
            self.assertEqual(found, meant(5, value), value)
            read += found is not None
        self.assertGreater(read, 500)

    def test_texts_that_are_wrong(self):
        self.check_bad(
            5, "", " ", ";", "();", ";()", "();;()", "() ", " ()", "()\n", "\n()", "(\n)", "( )", "( ())", "(() )", "(()  ())",
            "(()())", "(();())", "(", ")", "((", "(()", "())", ")(", "()()", "() ()", "[]", "~", "~~", "~ ()", "() ~", "()~",
            "*", "2*", "*()", "2* ()", "2 *()", "2**()", "2()", "-1*()", "+1*()", "00*()", "01*()", "2*2", "1_0*()", "1.0*()",
            "#", "#0", "();#1", "();#00", "();#01", "();# 0", "();#-1", "();#+0", "();##0", "();#0#0", "();#0*()", "();2#0",
            "();#0 #0", "();#x", "();#0,", "0", "0:", "0:1", "0:1-", "0:-1", ":-", ":", "-", "0-1", "1-2", ":1", ":0-", ":0:1",
            "0:1:2", "0:1-2-3", "0:1--2", "0::1-2", ",:0-1", "2,:0-1", ",2:0-1", "2,,3:0-1", "2 3:0-1", "2, 3:0-1", "3,2:0-1",
            "2,2:0-1", "0:1-1", "0:2-1", "0:0-1", "1:0-1", "5:0-1", "0:1-5", "0:4-5", "00:1-2", "0:01-2", "0:1-02", "04:1-2",
            "0:1-2,3", "0:1,2-3", "-1:0-1", "0 :1-2", "0: 1-2", "0:1 -2", "0:1- 2", "x", "row", "do", "none", "()#", "(#0)",
            "0:1-2;0:2-3;2*(#0 #2)", "0:1-2;0:2-3;2*(#0, #1)", "0:1-2,0:2-3", "0:1-2;0:2-3;2*[#0 #1]", "0:1-2 0:2-3",
            "~2", "~#0", "~(#0)", "0:1-2;~", "0:1-2;2*", "\u0660:1-2", "\u00b2*()", "0:1\u20112", "0\uff1a1-2", "();#\u0660",
            "0:1-2\t", "0:1-2\r", "\ufeff()", "()\u00a0", "(()\u00a0())", "2\u00d7()", "('row', ())", "(~)", "(2*)", "(0:1-2",
        )

    def test_noughts_ahead(self):
        for value in ("0:1-2", "0:2-3", "4:1-3", "();#0", "7*()", "10*()", "0*()", "();(#0 #0)"):
            self.assertIsNotNone(self.read_or_none(5, value))
            for spot, sign in enumerate(value):
                if sign in "0123456789" and (spot == 0 or value[spot - 1] not in "0123456789"):
                    self.check_bad(5, value[:spot] + "0" + value[spot:], value[:spot] + "00" + value[spot:])

    def test_blanks_and_line_feeds_more(self):
        for program in (RING, IDLE, (("back", ("row", (RING[0], ("times", ("row", ()), 3)))),)):
            text = program_text(program)
            for spot in range(len(text) + 1):
                for sign in (" ", "\n", "  ", "\r\n", "\t"):
                    self.check_bad(5, text[:spot] + sign + text[spot:])

    def test_parts_of_itself_and_of_later_terms(self):
        for many in (1, 2, 3, 400):
            for place in sorted({0, 1, many // 2, many - 1}):
                for g in (0, place - 1, place, place + 1, many - 1, many, 399, 400, 401, 10 ** 30):
                    if place < many and g >= 0:
                        terms = ["()"] * many
                        for text in (f"#{g}", f"(() #{g})", f"~2*#{g}"):
                            terms[place] = text
                            found = self.read_or_none(5, ";".join(terms))
                            self.assertEqual(found is not None, g < place, (many, place, g))

    def test_how_many_terms(self):
        for term, text in ((RING[0], "0:1-2"), (("row", ()), "()"), (("do", ((), 0, 1)), ":0-1")):
            for many in (1, 2, 399, 400):
                self.check(5, (term,) * many, ";".join([text] * many))
                self.check(5, (("row", (term,) * many),), "(" + " ".join([text] * many) + ")")
            for many in (401, 402, 800, 3000):
                row = "(" + " ".join([text] * many) + ")"
                self.check_bad(5, ";".join([text] * many), row, "~" + row, "(" + row + " ())", "0*" + row)
        chain = ";".join(["()"] + [f"#{place}" for place in range(399)])
        self.assertEqual(len(read_program(5, chain)), 400)
        self.check_bad(5, chain + ";#399", chain + ";()")
        full = "(" + " ".join(["()"] * 400) + ")"
        self.check(5, (("row", (("row", ()),) * 400),) * 8, ";".join([full] * 8))

    def test_one_term_more_or_less(self):
        text = "0:1-2;0:2-3;2*(#0 #1);(#2 #0)"
        self.assertEqual(read_program(5, text)[:3], RING)
        self.assertEqual(read_program(5, text + ";#3")[:3], RING)
        self.check_bad(5, text + ";#4", text + ";", ";" + text, text[6:], text.replace("0:2-3;", "", 1) + ";#4")
        self.assertIsNone(self.read_or_none(5, "0:1-2;2*(#0 #1);(#2 #0)"))

    def test_twelve_and_thirteen_deep(self):
        for ahead, behind in (("~", ""), ("(", ")"), ("2*", ""), ("(() ", ")"), ("(", " ())"), ("0*", ""), ("~(", ")")):
            step = 2 if ahead == "~(" else 1
            for text in ("()", "0:1-2", "#0"):
                for deep in range(1, 20):
                    value = "();" + ahead * deep + text + behind * deep
                    found = self.read_or_none(5, value)
                    self.assertEqual(found is not None, 1 + step * deep <= 12, value)
                    if found is not None:
                        self.assertEqual(program_text(found), value)
        self.check_bad(5, "~" * 12, "~" * 11, "~" * 13 + "()", "(" * 13 + ")" * 13, "~" * 12 + "(")
        self.check(5, (nested(("row", ()), 11, lambda term: ("row", (term,))),), "(" * 12 + ")" * 12)
        deep = nested(("part", 0), 11, lambda term: ("back", term))
        self.check(5, (RING[0], deep, nested(("part", 1), 11, lambda term: ("times", term, 2))),
                   "0:1-2;" + "~" * 11 + "#0;" + "2*" * 11 + "#1")

    def test_how_many_times(self):
        for k in (0, 1, 9, 10, 5000, MANY - 1, MANY):
            self.check(5, (("times", ("row", ()), k),), f"{k}*()")
            self.check_bad(5, f"-{k}*()", f"+{k}*()", f"0{k}*()", f"{k}.*()", f"{k}_*()")
        for k in (MANY + 1, 2 * MANY, 10 * MANY, 10 ** 399):
            self.check_bad(5, f"{k}*()", f"(() {k}*())", f"0*{k}*()")

    def test_thousands_of_signs_are_answered_quickly(self):
        with within(20):
            for sign in ("(", ")", "~", "1*", "0*", "1", "0", "9", "#", ",", ":", "-", "*", ";", " ", "\n", "()", "() ", "(()",
                         "~(", "#0 ", "0,", "0:1-2", "0:1-2 ", "0:1-2;", "();", "#0;", "1*(", "~1*", "(~", "1,", "((() ", "(() ", "x"):
                value = sign * (20000 // len(sign))
                self.check_bad(5, value, "()" + value, value + "()", "(" + value + ")", "();" + value, value + ";()",
                               "();#" + value, value + "*()", value + ":0-1", "0:1-" + value, ":" + value + "-4")
            self.check_bad(5, "(" * 10000 + ")" * 10000, "(" * 6000 + "()" + ")" * 6000, "~" * 19998 + "()",
                           "1*" * 9999 + "()", "9" * 19997 + "*()", "(" + "() " * 6000 + "())", "#" + "1" * 19999)

    def test_a_text_read_for_another_n(self):
        program = (("do", ((), 0, 2)), ("do", ((1,), 0, 3)), ("do", ((0, 3), 1, 4)), ("do", ((22,), 0, 23)))
        text = program_text(program)
        for many, least in ((1, 3), (2, 4), (3, 5), (4, 24)):
            part = ";".join(text.split(";")[:many])
            for n in range(3, 25):
                self.assertEqual(self.read_or_none(n, part), program[:many] if n >= least else None)
        self.check_bad(24, "0:1-24", "24:0-1", "0:1-99", ":0-100")

    def test_every_value_that_is_no_string(self):
        for value in VALUES + (RING, IDLE, list(RING), ("()",), ["()"], {"()": "()"}, ("row", ())):
            if not isinstance(value, str):
                self.check_bad(5, value)

    def test_strings_of_all_kinds(self):
        for value in VALUES:
            if isinstance(value, str):
                self.check_bad(5, value)
