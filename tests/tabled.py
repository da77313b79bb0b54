"""Tables for the tests of what is written from them, and what the document says of these in its own words."""

import random
from itertools import combinations

from keyriders.lots import all_lots
from keyriders.signs import kind_signs
from keyriders.tables import both, deed_table, still
from tests.helper import led_by, table_by
from tests.test_deeds import all_deeds
from tests.test_signs import counted_signs, noughts, summed


def goal_of(n, entry):
    """Return the lot of the places to which no rider of an entry goes."""
    return tuple([place for place in range(n) if place not in entry])


def with_entries(n, entries):
    """Return the still table with other entries for some lots, a dict that gives each its entry."""
    return tuple([entries.get(lot, entry) for lot, entry in zip(all_lots(n), still(n))])


def entry_to(n, lot, aim, chance):
    """Return an entry that leads a lot to a goal, and its riders as drawn, or in order if there is no chance."""
    free = [place for place in range(n) if place not in aim]
    if chance is not None:
        chance.shuffle(free)
    return tuple([-1 if place in lot else free.pop(0) for place in range(n)])


def exchange_table(n, ways):
    """Return the table that leads what lies at each place as ways tell."""
    return table_by(n, lambda standing: tuple([standing[ways.index(place)] for place in range(n)]))


def riders_round(n, lot, places):
    """Return the table that leads the riders of one lot round, from each place to the next one."""
    entry = list(still(n)[all_lots(n).index(lot)])
    for place, way in zip(places, places[1:] + places[:1]):
        entry[place] = way
    return with_entries(n, {lot: tuple(entry)})


def lots_round(n, lots, chance=None):
    """Return the table that leads lots of one size round, each to the next one, their riders as drawn."""
    return with_entries(n, {lot: entry_to(n, lot, aim, chance) for lot, aim in zip(lots, lots[1:] + lots[:1])})


def behind_one_another(n, tables):
    """Return the table that does some tables, one behind another."""
    table = still(n)
    for other in tables:
        table = both(n, table, other)
    return table


def deeds_table(n, kinds, many, chance):
    """Return the table of so many drawn deeds of kinds."""
    deeds = [deed for deed in all_deeds(n) if len(deed[0]) in kinds]
    return behind_one_another(n, [deed_table(n, chance.choice(deeds)) for _ in range(many)])


def dense_table(n, kinds, chance):
    """Return the table of many drawn deeds, by which each lot that may be led elsewhere is."""
    j = min(kind for kind in kinds if kind > 0)
    table = deeds_table(n, kinds, 40, chance)
    while not all(goal_of(n, entry) != lot for lot, entry in zip(all_lots(n), table) if j < len(lot) < n):
        table = both(n, table, deeds_table(n, kinds, 1, chance))
    return table


def some_places(n, chance):
    """Return a drawn exchange of places, ways of each one."""
    return tuple(chance.sample(range(n), n))


def sorts_of_tables(n, kinds, chance):
    """Return tables of many sorts: those of few deeds, and such as lead little or much, for many of which none is."""
    free = [lot for lot in all_lots(n) if len(lot) < n - 1]
    found = [still(n)] + [deeds_table(n, kinds, many, chance) for many in (1, 2, 3, 4)]
    found.append(exchange_table(n, some_places(n, chance)))
    for _ in range(3):
        lot = chance.choice(free)
        places = [place for place in range(n) if place not in lot]
        found.append(riders_round(n, lot, chance.sample(places, chance.randint(2, len(places)))))
    for size in range(1, n):
        lots = list(combinations(range(n), size))
        found.append(lots_round(n, chance.sample(lots, chance.choice((2, 3, 3, 4, 5))), chance))
    lots = list(combinations(range(n), n - 1))
    found.append(lots_round(n, chance.sample(lots, 3)))
    found.append(lots_round(n, chance.sample(lots, 5)))
    found.extend([both(n, *chance.sample(found, 2)) for _ in range(5)])
    return found


def core_by_words(n, kinds, table):
    """Return the core of a table, found standing by standing."""
    if 0 not in kinds:
        return table
    ways = table[0]
    return table_by(n, lambda standing: led_by(n, table, tuple([standing[ways[place]] for place in range(n)])))


def least_above(kinds):
    """Return the least kind above 0, None if there is none."""
    return min([kind for kind in kinds if kind > 0], default=None)


def sums_of_kinds(n, kinds):
    """Return the list of the sums of rows of all lots of kinds above 0."""
    above = [kind for kind in kinds if kind > 0]
    chosen = [some for many in range(len(above) + 1) for some in combinations(above, many)]
    return [summed(n, noughts(n), *[kind_signs(n, k) for k in some]) for some in chosen]


def moved_by_words(n, kinds, core):
    """Return the lots that a core leads as no program of kinds does."""
    j = least_above(kinds)
    found = []
    for lot, entry, stays in zip(all_lots(n), core, still(n)):
        if j is None or len(lot) < j:
            wrong = entry != stays
        else:
            wrong = len(lot) == j and goal_of(n, entry) != lot
        if wrong:
            found.append(lot)
    return found


def can_be_written(n, kinds, table):
    """Return whether there is a program of kinds that does a table, by [A2]."""
    core = core_by_words(n, kinds, table)
    return moved_by_words(n, kinds, core) == [] and counted_signs(n, core) in sums_of_kinds(n, kinds)


def is_plain(value, kind):
    """Return whether value is of just this kind."""
    return type(value) is kind


def are_spots(n, value):
    """Return whether value is an ascending tuple, not (), of pairs that tell signs."""
    if not is_plain(value, tuple) or not value:
        return False
    for item in value:
        if not is_plain(item, tuple) or [type(part) for part in item] != [int, int]:
            return False
        if item[0] not in range(n + 1) or item[1] not in (0, 1):
            return False
    return sorted(set(value)) == list(value)


def odd_at(row, spots):
    """Return the sum modulo 2 of the signs of a row at some spots, None if one is not told."""
    signs = [row[m][side] for m, side in spots]
    return None if None in signs else sum(signs) % 2


def spots_bar(n, kinds, row, value):
    """Return whether value are spots, all told, even for each kind above 0 and odd for a row."""
    if not are_spots(n, value) or odd_at(row, value) != 1:
        return False
    return all(odd_at(kind_signs(n, k), value) == 0 for k in kinds if k > 0)


def is_paper_by_words(n, kinds, table, value):
    """Return whether value is a paper of kinds and a table, by [E6]."""
    core = core_by_words(n, kinds, table)
    return is_paper_of(n, kinds, moved_by_words(n, kinds, core), counted_signs(n, core), value)


def is_paper_of(n, kinds, moved, row, value):
    """Return whether value is a paper of one of some lots that are moved, or of told signs of a row."""
    if not is_plain(value, tuple) or len(value) != 2 or not is_plain(value[0], str):
        return False
    if value[0] == "moved":
        lots = [lot for lot in moved if lot == value[1]]
        return len(lots) == 1 and [type(place) for place in value[1]] == [int] * len(lots[0])
    return value[0] == "signs" and least_above(kinds) is not None and spots_bar(n, kinds, row, value[1])


def all_spots(n):
    """Return all spots of n."""
    return [(m, side) for m in range(n + 1) for side in (0, 1)]


def drawn_spots(n, chance):
    """Return a drawn ascending tuple of spots, not ()."""
    return tuple(sorted(chance.sample(all_spots(n), chance.randint(1, 2 * n))))


def barring_spots(n, rows, row):
    """Return the list of all tuples of spots that are even for rows and odd for a row, None standing for what is not told.

    All tuples of spots are gone through: those that even one row, told in bits, bars.
    """
    spots = [(m, side) for m, side in all_spots(n) if row[m][side] is not None]

    def bits(other):
        return sum(other[m][side] << at for at, (m, side) in enumerate(spots))

    evens, odd = [bits(other) for other in rows], bits(row)
    found = []
    for mask in range(1, 1 << len(spots)):
        if (mask & odd).bit_count() % 2 and not any((mask & even).bit_count() % 2 for even in evens):
            found.append(tuple([spot for at, spot in enumerate(spots) if mask >> at & 1]))
    return found


def twisted(value):
    """Return values that are made of a paper, and are none, or may be others: wrong words, lists, bools, items more and less."""
    word, told = value
    found = [
        list(value), (word,), value + (0,), (told, word), (word, list(told)), (word, None), (word, word), (word.upper(), told),
        ("moved" if word == "signs" else "signs", told), (None, told), (word, told + told[-1:]), (word, told + (99,)), (word, told + ((),)),
        (word, (told,)), (word, told + (True,)), ((word,), told), [word, told], {word: told}, (word, {}), word, told,
    ]
    if word == "signs":
        found.extend([
            (word, told[::-1] + told[:1]), (word, tuple([list(spot) for spot in told])), (word, told[:-1] + (told[-1] + (0,),)),
            (word, tuple([(m, bool(side)) for m, side in told])), (word, ((told[0][0] - 40, 0),) + told), (word, told + ((40, 0),)),
            (word, tuple([(m, side + 2) for m, side in told])), (word, ((True, 0),) + told), (word, ()),
            (word, tuple([(str(m), side) for m, side in told])), (word, tuple([m for m, _ in told])),
        ])
    return found


def chance_of(*told):
    """Return a source of draws that is told by some integers."""
    number = 0
    for item in told:
        number = number * 1000 + item
    return random.Random(number)
