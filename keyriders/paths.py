"""Paths: rows of deeds that lead lots, or riders at them, to others.

A thing is a pair: the number of a lot, and the place of a rider there, or WHOLE for the lot itself. A round is a tuple
of things, each of which goes to the next one, the last one to the first; it may be told from any of them on.
"""

from keyriders.lots import lots_of
from keyriders.tables import aims_of, deed_table, steps_of

WHOLE = -1


def things_led(n, table):
    """Return the dict that gives each thing the one to which a table leads it."""
    led = steps_of(n, table)
    for number, aim in enumerate(aims_of(n, table)):
        led[number, WHOLE] = (aim, WHOLE)
    return led


def moves_of(n, kind):
    """Return pairs for all deeds of a kind: the term that does it, and how it leads things."""
    moves = []
    for lot in lots_of(n, kind):
        free = [place for place in range(n) if place not in lot]
        deeds = [(lot, a, b) for a in free for b in free if a < b]
        moves.extend([(("do", deed), things_led(n, deed_table(n, deed))) for deed in deeds])
    return moves


def round_from(led, thing):
    """Return the round of things that goes on from a thing."""
    found = [thing]
    while led[found[-1]] != thing:
        found.append(led[found[-1]])
    return tuple(found)


def rounds_back(led, things):
    """Return rounds of three that lead things back, one behind another; these are led among themselves, an even way."""
    left = {thing: led[thing] for thing in things}
    rounds = []
    for thing in things:
        aim = left[thing]
        if aim != thing:
            third = _third_thing(left, thing, aim)
            rounds.append((aim, thing, third))
            onward = {aim: thing, thing: third, third: aim}
            left = {start: onward.get(end, end) for start, end in left.items()}
    return rounds


def _third_thing(left, thing, aim):
    """Return what best goes round with a thing and its aim: never what is where it should be."""
    from_there = [start for start in left if left[start] == thing and start != aim]
    # Where two are exchanged with one another there are others that are not back, as the way is even.
    others = [start for start in left if left[start] != start and start not in (thing, aim)]
    return (from_there + others)[0]


class Paths:
    """The shortest rows of deeds that lead a first round to others, searched just as far as was asked."""

    def __init__(self, moves, first):
        start = _from_least(first)
        self._moves = moves
        self._rows = {start: ()}
        self._met = [start]
        self._passed = 0

    def row_to(self, aim):
        """Return the terms of the deeds that lead the first round to another one."""
        wanted = _from_least(aim)
        while wanted not in self._rows:
            self._go_on()
        return self._rows[wanted]

    def _go_on(self):
        """Do each deed behind the next one of the rows that were met."""
        current = self._met[self._passed]
        self._passed += 1
        for term, led in self._moves:
            onward = _from_least([led[thing] for thing in current])
            if onward not in self._rows:
                self._rows[onward] = self._rows[current] + (term,)
                self._met.append(onward)


def _from_least(things):
    """Return a round told from its least thing on."""
    spot = things.index(min(things))
    return tuple(things[spot:]) + tuple(things[:spot])
