"""Shells: benches that are asked and answer in lines."""

from keyriders.benches import Bench
from keyriders.edits import NO_NAMES
from keyriders.errors import BadText, RidersError
from keyriders.programs import kinds_of, length
from keyriders.programtexts import program_text, read_program
from keyriders.standingtexts import read_standing, standing_text

WHAT = "what"


class Shell:
    """A bench of n places, and what it says to lines."""

    def __init__(self, n):
        self._bench = Bench(n)

    def say(self, line):
        """Return the answer to a line."""
        if not isinstance(line, str):
            return WHAT
        try:
            return _answer(self._bench, line)
        except RidersError as error:
            return _error_text(error)


def _error_text(error):
    """Return what is said of an error."""
    # No edit and no question raises BadText: so something in the line is not the text that is told there.
    if isinstance(error, BadText):
        return WHAT
    return "error " + error.__class__.__name__


def _answer(bench, line):
    """Return the answer to a line, an error of the bench being raised."""
    word, _, rest = line.partition(" ")
    if line in ALONE:
        answer = ALONE[line]
        return answer(bench)
    name, blank, text = rest.partition(" ")
    if name == "":
        return WHAT
    if word in OF_NAME and blank == "":
        answer = OF_NAME[word]
        return answer(bench, name)
    if word in OF_NAMES and text != "" and " " not in text:
        answer = OF_NAMES[word]
        return answer(bench, name, text)
    if word in OF_TEXT:
        answer = OF_TEXT[word]
        return answer(bench, name, text)
    return WHAT


def _version_text(version):
    """Return what is said of the version behind an edit."""
    return "version " + str(version)


def _undo(bench):
    return _version_text(bench.undo())


def _redo(bench):
    return _version_text(bench.redo())


def _names(bench):
    return " ".join(list(bench)) if len(bench) > 0 else NO_NAMES


def _made(bench):
    return str(bench.made)


def _drop(bench, name):
    return _version_text(bench.drop(name))


def _show(bench, name):
    return program_text(bench[name])


def _length(bench, name):
    return str(length(bench[name]))


def _kinds(bench, name):
    kinds = kinds_of(bench[name])
    return " ".join([str(kind) for kind in kinds]) if kinds != () else NO_NAMES


def _call(bench, name, other):
    return _version_text(bench.call(name, other))


def _alike(bench, name, other):
    return "yes" if bench.alike(name, other) else "no"


def _add(bench, name, text):
    return _version_text(bench.add(name, read_program(bench.n, text)))


def _led(bench, name, text):
    return standing_text(bench.led(name, read_standing(bench.n, text)))


ALONE = {"undo": _undo, "redo": _redo, "names": _names, "made": _made}
OF_NAME = {"drop": _drop, "show": _show, "length": _length, "kinds": _kinds}
OF_NAMES = {"call": _call, "alike": _alike}
OF_TEXT = {"add": _add, "led": _led}
