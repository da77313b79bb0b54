"""Tables: for each lot of places with keys, where the riders go."""

from math import lcm

from keyriders.lots import all_lots
from keyriders.values import is_between, is_tuple_of


def goal(n, entry):
    """Return the lot of the places to which no rider goes."""
    return tuple([place for place in range(n) if place not in entry])


def table_error(n, value):
    """Return None if value is a table of n, otherwise what is wrong with it."""
    lots = all_lots(n)
    if not is_tuple_of(value, len(lots)):
        return "form"
    for number, lot in enumerate(lots):
        if not is_entry(n, lot, value[number]):
            return ("entry", number)
    met = {}
    for number, entry in enumerate(value):
        aim = goal(n, entry)
        if aim in met:
            return ("goal", number)
        met[aim] = number
    return None


def is_entry(n, lot, value):
    """Return whether value is an entry of n for a lot."""
    if not is_tuple_of(value, n):
        return False
    for place, item in enumerate(value):
        if place in lot and not is_between(item, -1, -1):
            return False
        if place not in lot and not is_between(item, 0, n - 1):
            return False
    ways = [item for item in value if item != -1]
    return len(set(ways)) == len(ways)


def still(n):
    """Return the table all of whose entries are still."""
    return ways_table(n, list(range(n)))


def ways_table(n, ways):
    """Return the table that leads what lies at each place as ways tell, wherever the keys lie."""
    return tuple([_entry_by(lot, ways) for lot in all_lots(n)])


def _entry_by(lot, ways):
    """Return the entry for a lot by which what lies at each place goes as ways tell."""
    return tuple([-1 if place in lot else way for place, way in enumerate(ways)])


def deed_table(n, deed):
    """Return the table of a deed."""
    asked, a, b = deed
    staying = list(range(n))
    exchanged = list(staying)
    exchanged[a] = b
    exchanged[b] = a
    entries = []
    for lot in all_lots(n):
        comes_about = all([place in lot for place in asked])
        entries.append(_entry_by(lot, exchanged if comes_about else staying))
    return tuple(entries)


def exchange_of(n, table):
    """Return the places to which the riders go where no place holds a key."""
    return table[0]


def both(n, one, other):
    """Return the table that does what one does, and then what other does."""
    entries = []
    for aim, entry in zip(aims_of(n, one), one):
        onward = other[aim]
        entries.append(tuple([-1 if place == -1 else onward[place] for place in entry]))
    return tuple(entries)


def numbers_of_lots(n):
    """Return the dict that gives each lot its number."""
    return {lot: number for number, lot in enumerate(all_lots(n))}


def undone(n, table):
    """Return the table that leads all that a table does back."""
    entries = [()] * len(table)
    for aim, entry in zip(aims_of(n, table), table):
        entries[aim] = turned_back(entry)
    return tuple(entries)


def aims_of(n, table):
    """Return the list of the numbers of the goals of all lots."""
    numbers = numbers_of_lots(n)
    return [numbers[goal(n, entry)] for entry in table]


def turned_back(entry):
    """Return the entry that leads all riders of an entry back."""
    back = [-1] * len(entry)
    for place, way in enumerate(entry):
        if way != -1:
            back[way] = place
    return tuple(back)


def power(n, table, k):
    """Return a table done k times one behind another, undone for k below 0."""
    behind = {}
    for circle in _circles(n, table):
        for spot, pair in enumerate(circle):
            behind[pair] = circle[(spot + k) % len(circle)]
    return tuple([_entry_of(n, number, behind) for number in range(len(table))])


def _entry_of(n, number, behind):
    """Return the entry of the lot with a number, by the pairs behind those of its riders."""
    return tuple([behind[number, place][1] if (number, place) in behind else -1 for place in range(n)])


def order_of(n, table):
    """Return the least k above 0 for which a table done k times is still."""
    order = 1
    for circle in _circles(n, table):
        order = lcm(order, len(circle))
    return order


def _circles(n, table):
    """Return how a table leads riders round: lists of pairs, each led to the next one, the last one to the first.

    A pair is the number of the lot where the keys lie, and the place of one rider.
    """
    # However often a table is done, a rider at a lot only goes on along its circle.
    steps = steps_of(n, table)
    met = {}
    circles = []
    for start in steps:
        circle = []
        pair = start
        while pair not in met:
            met[pair] = True
            circle.append(pair)
            pair = steps[pair]
        if circle != []:
            circles.append(circle)
    return circles


def steps_of(n, table):
    """Return the dict that gives each pair of the number of a lot and the place of a rider the pair behind it."""
    aims = aims_of(n, table)
    steps = {}
    for number, entry in enumerate(table):
        for place, way in enumerate(entry):
            if way != -1:
                steps[number, place] = (aims[number], way)
    return steps
