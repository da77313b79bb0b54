"""Cores: what tables do but for the exchange of places where no place holds a key."""

from keyriders.tables import both, exchange_of, turned_back, ways_table


def core_of(n, kinds, table):
    """Return what is left of a table for kinds above 0, if 0 is among kinds: the table itself if it is not."""
    return without_exchange(n, table) if 0 in kinds else table


def without_exchange(n, table):
    """Return what is left of a table if the exchange that it does where no place holds a key is done backward first."""
    return both(n, ways_table(n, turned_back(exchange_of(n, table))), table)


def is_still(entry):
    """Return whether each rider of an entry stays where it is."""
    return all([way in (-1, place) for place, way in enumerate(entry)])
