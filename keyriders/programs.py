"""Programs: what is wrong with them, how long they are, and programs that are made of others."""

from keyriders.bounds import MAX_DEEP, MAX_LENGTH, MAX_TERMS, MAX_TIMES
from keyriders.deeds import deed_error
from keyriders.errors import TooMany
from keyriders.values import is_between, is_tuple_of

PAIR_WORDS = ("do", "row", "back", "part")


def program_error(n, value):
    """Return None if value is a program of n, otherwise what is wrong with it."""
    if not isinstance(value, tuple) or not 1 <= len(value) <= MAX_TERMS:
        return "form"
    for i, term in enumerate(value):
        word = _term_error(n, i, term, 1)
        if word is not None:
            return (i, word)
    return None


def _term_error(n, i, term, deep):
    """Return the word of the first fault in a term that stands so deep in the item i, None if there is none."""
    if deep > MAX_DEEP:
        return "deep"
    if not _has_term_form(term):
        return "term"
    word = term[0]
    if word == "do":
        return None if deed_error(n, term[1]) is None else "deed"
    if word == "part":
        return None if is_between(term[1], 0, i - 1) else "part"
    if word == "row":
        return _row_error(n, i, term[1], deep)
    if word == "times" and not is_between(term[2], 0, MAX_TIMES):
        return "times"
    return _term_error(n, i, term[1], deep + 1)


def _has_term_form(value):
    """Return whether value has the word of a term, and as many items as this word asks."""
    if is_tuple_of(value, 2):
        return value[0] in PAIR_WORDS
    return is_tuple_of(value, 3) and value[0] == "times"


def _row_error(n, i, terms, deep):
    """Return the word of the first fault in the terms of a row that stands so deep, None if there is none."""
    if not isinstance(terms, tuple) or len(terms) > MAX_TERMS:
        return "many"
    for term in terms:
        word = _term_error(n, i, term, deep + 1)
        if word is not None:
            return word
    return None


def program_worth(program, measure):
    """Return the worth of what a program does, as measure tells it of deeds and of what is made of them."""
    # A part may be done more often than could ever be walked through: so each term is measured once.
    worths = []
    for term in program:
        worths.append(term_worth(term, worths, measure))
    return worths[-1]


def term_worth(term, worths, measure):
    """Return the worth of a term, worths being those of the terms ahead of it."""
    word = term[0]
    if word == "do":
        return measure.of_deed(term[1])
    if word == "part":
        return worths[term[1]]
    if word == "row":
        return measure.of_row([term_worth(inner, worths, measure) for inner in term[1]])
    worth = term_worth(term[1], worths, measure)
    if word == "back":
        return measure.of_back(worth)
    return measure.of_times(worth, term[2])


class LengthMeasure:
    """How many deeds are done; MAX_LENGTH + 1 stands for all that are more than MAX_LENGTH."""

    def of_deed(self, deed):
        """Return how many deeds a deed is."""
        return 1

    def of_row(self, worths):
        """Return how many deeds terms do together."""
        return min(sum(worths), MAX_LENGTH + 1)

    def of_back(self, worth):
        """Return how many deeds are done to undo so many."""
        return worth

    def of_times(self, worth, k):
        """Return how many deeds are done if so many are done k times."""
        return min(worth * k, MAX_LENGTH + 1)


class KindsMeasure:
    """The ascending tuple of the kinds of the deeds that are done at least once."""

    def of_deed(self, deed):
        """Return the kinds of a deed."""
        return (len(deed[0]),)

    def of_row(self, worths):
        """Return the kinds that terms have together."""
        return tuple(sorted(set([kind for kinds in worths for kind in kinds])))

    def of_back(self, worth):
        """Return the kinds of what is undone."""
        return worth

    def of_times(self, worth, k):
        """Return the kinds of what is done k times."""
        return worth if k > 0 else ()


def length(program):
    """Return how many deeds a program does in all."""
    many = program_worth(program, LengthMeasure())
    if many > MAX_LENGTH:
        raise TooMany(MAX_LENGTH)
    return many


def kinds_of(program):
    """Return the ascending tuple of the kinds of all deeds that a program does at least once."""
    return program_worth(program, KindsMeasure())


def joined(one, other):
    """Return a program that does what one does, then what other does."""
    many = len(one) + len(other)
    if many >= MAX_TERMS:
        raise TooMany(MAX_TERMS)
    spots = list(range(len(one), many))
    behind = tuple([with_parts_at(term, spots) for term in other])
    return one + behind + (("row", (("part", len(one) - 1), ("part", many - 1))),)


def with_parts_at(term, spots):
    """Return a term with ("part", spots[g]) in place of each ("part", g) in it."""
    word = term[0]
    if word == "do":
        return term
    if word == "part":
        return ("part", spots[term[1]])
    if word == "row":
        return ("row", tuple([with_parts_at(inner, spots) for inner in term[1]]))
    return (word, with_parts_at(term[1], spots)) + term[2:]


def backward(program):
    """Return a program that undoes what a program does."""
    if len(program) >= MAX_TERMS:
        raise TooMany(MAX_TERMS)
    return program + (("back", ("part", len(program) - 1)),)
