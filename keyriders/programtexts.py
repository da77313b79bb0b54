"""The texts of programs."""

from keyriders.bounds import MAX_DEEP, MAX_PLACES, MAX_TERMS, MAX_TIMES
from keyriders.errors import BadText
from keyriders.programs import program_error
from keyriders.values import read_number

WORD_SIGNS = "0123456789,:-"


def program_text(program):
    """Return the text of a program."""
    return ";".join([_term_text(term) for term in program])


def _term_text(term):
    """Return the text of a term."""
    word = term[0]
    if word == "do":
        return _deed_text(term[1])
    if word == "part":
        return "#" + str(term[1])
    if word == "row":
        return "(" + " ".join([_term_text(inner) for inner in term[1]]) + ")"
    if word == "back":
        return "~" + _term_text(term[1])
    return str(term[2]) + "*" + _term_text(term[1])


def _deed_text(deed):
    """Return the text of a deed."""
    lot, a, b = deed
    return ",".join([str(place) for place in lot]) + ":" + str(a) + "-" + str(b)


def read_program(n, value):
    """Return the program of n of which value is the text."""
    if not isinstance(value, str):
        raise BadText()
    texts = value.split(";")
    if len(texts) > MAX_TERMS:
        raise BadText()
    program = tuple([_read_whole_term(text) for text in texts])
    # What is read may have the form of a program alone: numbers that are none, or too great, were read as None.
    if program_error(n, program) is not None:
        raise BadText()
    return program


def _read_whole_term(text):
    """Return the term that a text tells from its first sign to its last one."""
    term, end = _read_term(text, 0, 1)
    if end != len(text):
        raise BadText()
    return term


def _read_term(text, at, deep):
    """Return the term whose text begins at a sign, and where this text ends; the term stands so deep."""
    # A text may have thousands of brackets: so it is left as soon as it is too deep.
    if deep > MAX_DEEP:
        raise BadText()
    sign = text[at:at + 1]
    if sign == "(":
        return _read_row(text, at + 1, deep)
    if sign == "~":
        term, end = _read_term(text, at + 1, deep + 1)
        return ("back", term), end
    if sign == "#":
        end = _word_end(text, at + 1)
        return ("part", read_number(text[at + 1:end], MAX_TERMS)), end
    end = _word_end(text, at)
    if text[end:end + 1] == "*":
        term, behind = _read_term(text, end + 1, deep + 1)
        return ("times", term, read_number(text[at:end], MAX_TIMES)), behind
    return ("do", _read_deed(text[at:end])), end


def _read_row(text, at, deep):
    """Return the row whose terms begin at a sign, behind its bracket, and where its text ends."""
    if text[at:at + 1] == ")":
        return ("row", ()), at + 1
    term, end = _read_term(text, at, deep + 1)
    terms = [term]
    while text[end:end + 1] == " ":
        term, end = _read_term(text, end + 1, deep + 1)
        terms.append(term)
    if text[end:end + 1] != ")":
        raise BadText()
    return ("row", tuple(terms)), end + 1


def _word_end(text, at):
    """Return where the signs of numbers and deeds end that begin at a sign."""
    end = at
    while end < len(text) and text[end] in WORD_SIGNS:
        end += 1
    return end


def _read_deed(word):
    """Return the deed of which a word is the text, with None for each number that is none."""
    lot_text, _, places_text = word.partition(":")
    a_text, _, b_text = places_text.partition("-")
    lot = tuple([_read_place(text) for text in lot_text.split(",")]) if lot_text != "" else ()
    return (lot, _read_place(a_text), _read_place(b_text))


def _read_place(text):
    """Return the place of which a text is the number, None if there is none."""
    return read_number(text, MAX_PLACES)
