"""Asking: which kinds of deeds a table asks for."""

from keyriders.barring import paper_of
from keyriders.cores import is_still, without_exchange
from keyriders.errors import Barred, Unfit
from keyriders.lots import all_lots, numbers_of
from keyriders.signs import kinds_in, signs_of
from keyriders.tables import aims_of, exchange_of


def asked(n, table):
    """Return the kinds that a table needs, and the greatest number that may be the least kind above 0."""
    paper = paper_of(n, tuple(range(n - 1)), table)
    if paper is not None:
        raise Barred(paper)
    core = without_exchange(n, table)
    ahead = () if is_still(exchange_of(n, table)) else (0,)
    return (ahead + kinds_in(n, signs_of(n, core)), _level(n, core))


def _level(n, core):
    """Return the greatest number that may be the least kind above 0 for a core, None if it is still."""
    sizes = [len(lot) for lot, entry in zip(all_lots(n), core) if not is_still(entry)]
    if sizes == []:
        return None
    aims = aims_of(n, core)
    return sizes[0] if all([aims[number] == number for number in numbers_of(n, sizes[0])]) else sizes[0] - 1


def fewest_kinds(n, table):
    """Return the fewest kinds for which a table can be written, the first tuple of those that are as few."""
    needed, level = asked(n, table)
    kinds = needed
    if level is not None and not any([1 <= k <= level for k in needed]):
        kinds = tuple(sorted(needed + (1,)))
    return kinds if kinds != () else (0,)


def why_needed(n, table, k):
    """Return a paper of a table and all kinds but k, which this table needs."""
    needed, _ = asked(n, table)
    if k not in needed:
        raise Unfit()
    return paper_of(n, tuple([kind for kind in range(n - 1) if kind != k]), table)
