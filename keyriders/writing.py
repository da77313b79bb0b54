"""Writing: programs from tables."""

from keyriders.barring import paper_of
from keyriders.cores import core_of
from keyriders.doing import TableMeasure
from keyriders.errors import Barred
from keyriders.lots import lot_at, lot_number, numbers_of
from keyriders.paths import WHOLE, Paths, moves_of, round_from, rounds_back, things_led
from keyriders.programs import term_worth
from keyriders.rings import commutator, deed_term, ring_term, rings_of_pair
from keyriders.signs import carryings_sign, kinds_in, signs_of
from keyriders.tables import both, exchange_of
from keyriders.values import least_kind


def written(n, kinds, table):
    """Return a program of kinds that does a table."""
    paper = paper_of(n, kinds, table)
    if paper is not None:
        raise Barred(paper)
    # If 0 is not among kinds there is no exchange.
    terms = _exchange_terms(exchange_of(n, table))
    j = least_kind(kinds)
    if j is None:
        return (("row", terms),)
    writer = Writer(n, j, core_of(n, kinds, table))
    writer.lead_all_back()
    return writer.program(terms)


def _exchange_terms(ways):
    """Return the terms of deeds of the kind 0 that lead what lies at each place as ways tell."""
    return tuple([deed_term((), a, b) for a, b in _exchanges_back(ways)[::-1]])


def _exchanges_back(ways):
    """Return pairs of places that lead back, exchanged one behind another, what goes as ways tell; keys stay."""
    left = list(ways)
    pairs = []
    for place in range(len(left)):
        way = left[place]
        if way not in (-1, place):
            pairs.append((place, way))
            left[left.index(place)] = way
            left[place] = place
    return pairs


class Writer:
    """Parts of a program, and rows of them that lead back what a table does, one behind another."""

    def __init__(self, n, j, core):
        self._n = n
        self._j = j
        self._left = core
        self._moves = moves_of(n, j)
        self._parts = []
        self._tables = []
        self._rows = []
        self._turns = {}

    def program(self, terms):
        """Return the program that does some terms, and then what was led back."""
        return tuple(self._parts) + (("row", terms + (("back", ("row", tuple(self._rows))),)),)

    def lead_all_back(self):
        """Lead all back that the table does, from the least lots on."""
        self._lead_least_riders()
        self._take_off_kinds()
        for size in range(self._j + 1, self._n - 1):
            self._lead_lots(size)
            self._lead_odd_lots(size)
            self._lead_riders(size)
        self._lead_lots(self._n - 1)

    def _part(self, term):
        """Keep a term as a part; return the term that does this part."""
        self._tables.append(term_worth(term, self._tables, TableMeasure(self._n)))
        self._parts.append(term)
        return ("part", len(self._parts) - 1)

    def _do(self, terms):
        """Do terms, if there are any, behind what is left of the table."""
        if terms != []:
            self._rows.append(self._part(("row", tuple(terms))))
            self._left = both(self._n, self._left, self._tables[-1])

    def _lead_least_riders(self):
        """Lead the riders back at the lots of j places, which are where they should be."""
        terms = []
        for number in numbers_of(self._n, self._j):
            lot = lot_at(self._n, number)
            terms.extend([deed_term(lot, a, b) for a, b in _exchanges_back(self._left[number])])
        self._do(terms)

    def _take_off_kinds(self):
        """Do one deed of each kind that still comes an odd number of times."""
        # Then all signs are 0, and stay so: what comes behind are commutators.
        kinds = kinds_in(self._n, signs_of(self._n, self._left))
        self._do([deed_term(tuple(range(kind)), kind, kind + 1) for kind in kinds])

    def _lead_lots(self, size):
        """Lead the lots of a size back, all lesser ones being back."""
        lots = [(number, WHOLE) for number in numbers_of(self._n, size)]
        rounds = rounds_back(things_led(self._n, self._left), lots)
        if rounds != []:
            turn = self._turns_of(size)[0]
            led = things_led(self._n, self._table_of(turn))
            moved = [lot for lot in lots if led[lot] != lot]
            self._lead(turn, round_from(led, moved[0]), rounds)

    def _lead_odd_lots(self, size):
        """Exchange riders at the lots of a size that have an odd carrying, by twos, all of these lots being back."""
        odd = [number for number in numbers_of(self._n, size) if carryings_sign([self._left[number]]) == 1]
        if odd != []:
            one, other = self._turns_of(size)
            pair = self._part(("row", (one, ("back", other))))
            first = [tuple(range(size - 2)) + places for places in ((size - 2, size - 1), (size - 2, size))]
            rounds = [((number, WHOLE), (further, WHOLE)) for number, further in zip(odd[::2], odd[1::2])]
            self._lead(pair, [(lot_number(self._n, lot), WHOLE) for lot in first], rounds)

    def _lead_riders(self, size):
        """Lead the riders back at the lots of a size, all of which are back and have an even carrying."""
        led = things_led(self._n, self._left)
        rounds = []
        for number in numbers_of(self._n, size):
            rounds.extend(rounds_back(led, [(number, place) for place in range(self._n) if (number, place) in led]))
        if rounds != []:
            lot = tuple(range(size))
            ring = self._part(ring_term(self._j, lot, size, size + 1, size + 2))
            number = lot_number(self._n, lot)
            self._lead(ring, [(number, size), (number, size + 1), (number, size + 2)], rounds)

    def _lead(self, part, first, rounds):
        """Do to rounds of things what a part does to a first round, and to nothing else of its size."""
        # With a row of deeds done backward ahead of it, and forward behind it, the part does the same to the round to
        # which this row leads the first one; and lesser lots, which the part leaves, are where they were.
        paths = Paths(self._moves, first)
        rows = [paths.row_to(aim) for aim in rounds]
        self._do([("row", row[::-1] + (part,) + row) for row in rows])

    def _table_of(self, part):
        """Return the table of what the term of a part does."""
        return self._tables[part[1]]

    def _turns_of(self, size):
        """Return the terms of the parts that lead three lots of a size round, the same ones the same way."""
        if size not in self._turns:
            parts = [self._part(term) for term in _turning_terms(self._n, self._j, size)]
            twos = list(zip(parts[::2], parts[1::2]))
            self._turns[size] = [self._part(commutator(one, other)) for one, other in twos]
        return self._turns[size]


def _turning_terms(n, j, size):
    """Return terms the commutator of the first two of which leads three lots of a size round, and leaves lesser ones.

    If there are two further ones theirs leads the same lots round the same way, but not the same riders.
    """
    if size < n - 1:
        return rings_of_pair(j, tuple(range(size - 2)), size - 2, size - 1, size, size + 1)
    if j == n - 2:
        return (deed_term(_others(n, (0, 1)), 0, 1), deed_term(_others(n, (1, 2)), 1, 2))
    return (ring_term(j, _others(n, (0, 1, 2)), 0, 1, 2), ring_term(j, _others(n, (0, 3, 4)), 0, 3, 4))


def _others(n, places):
    """Return the lot of all places but some."""
    return tuple([place for place in range(n) if place not in places])
