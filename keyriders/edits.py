"""Edits of shelves: ascending tuples of pairs of a name and its program. An edit makes a new shelf."""

from keyriders.bounds import BATCH, MAX_NAMES
from keyriders.errors import BadBatch, BadProgram, NoName, Rejected, RidersError, Taken, TooMany, Unfit
from keyriders.programs import program_error
from keyriders.values import is_between

NO_NAMES = "none"
MAX_LETTERS = 8


def program_of(shelf, name):
    """Return the program of a name on a shelf."""
    for kept, program in shelf:
        if kept == name:
            return program
    raise NoName(name)


def names_of(shelf):
    """Return the ascending tuple of the names on a shelf."""
    return tuple([name for name, _ in shelf])


def changed(n, shelf, edit):
    """Return the shelf behind an edit, a tuple of its word and its arguments."""
    word, *arguments = edit
    if word == "batch":
        return _batched(n, shelf, *arguments)
    change = CHANGES[word]
    return change(n, shelf, *arguments)


def _batched(n, shelf, edits):
    """Return the shelf behind some edits, one behind another."""
    if not isinstance(edits, tuple) or len(edits) > BATCH or not all([_is_part(edit) for edit in edits]):
        raise BadBatch()
    behind = shelf
    for place, edit in enumerate(edits):
        try:
            behind = changed(n, behind, edit)
        except RidersError:
            raise Rejected(place)
    return behind


def _is_part(value):
    """Return whether value has the form of an edit that may stand in a batch."""
    if not isinstance(value, tuple) or value == () or not isinstance(value[0], str):
        return False
    return value[0] in ARGUMENTS and len(value) == 1 + ARGUMENTS[value[0]]


def _added(n, shelf, name, program):
    """Return a shelf with a further name."""
    if not _is_name(name):
        raise Unfit()
    _check_program(n, program)
    if name in names_of(shelf):
        raise Taken(name)
    if len(shelf) >= MAX_NAMES:
        raise TooMany(MAX_NAMES)
    return _with_program(shelf, name, program)


def _dropped(n, shelf, name):
    """Return a shelf without a name."""
    program_of(shelf, name)
    return tuple([pair for pair in shelf if pair[0] != name])


def _called(n, shelf, name, other):
    """Return a shelf on which a program has another name."""
    program = program_of(shelf, name)
    if not _is_name(other):
        raise Unfit()
    if other in names_of(shelf):
        raise Taken(other)
    return _with_program(_dropped(n, shelf, name), other, program)


def _put(n, shelf, name, spot, term):
    """Return a shelf with another term at a spot of a program."""
    program = program_of(shelf, name)
    if not is_between(spot, 0, len(program) - 1):
        raise Unfit()
    changed_program = program[:spot] + (term,) + program[spot + 1:]
    _check_program(n, changed_program)
    return _with_program(shelf, name, changed_program)


def _lengthened(n, shelf, name, term):
    """Return a shelf with a term behind the last one of a program."""
    longer = program_of(shelf, name) + (term,)
    _check_program(n, longer)
    return _with_program(shelf, name, longer)


def _check_program(n, value):
    """Raise BadProgram if value is no program of n."""
    error = program_error(n, value)
    if error is not None:
        raise BadProgram(error)


def _with_program(shelf, name, program):
    """Return a shelf on which a name has this program."""
    return tuple(sorted([pair for pair in shelf if pair[0] != name] + [(name, program)]))


def _is_name(value):
    """Return whether value is a name."""
    if not isinstance(value, str) or not 1 <= len(value) <= MAX_LETTERS:
        return False
    return value.isascii() and value.isalpha() and value.islower() and value != NO_NAMES


CHANGES = {"add": _added, "drop": _dropped, "call": _called, "put": _put, "more": _lengthened}
ARGUMENTS = {"add": 2, "drop": 1, "call": 2, "put": 3, "more": 2}
