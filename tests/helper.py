"""What the tests share."""

import copy
import random
import signal
from contextlib import contextmanager
from itertools import combinations


def nested(value, deep, wrap):
    """Return value with wrap put around it so many times."""
    for _ in range(deep):
        value = wrap(value)
    return value


# Values of all kinds that a caller may hand in where any value is let.
VALUES = (
    None, True, False, 0, 1, -1, 5, 24, 10 ** 399, -10 ** 399,
    "", "a", "0", "0 1 2", "do", "row", "\n", "x\ny", " " * 20000, "7" * 20000,
    (), (0,), (True,), (None,), ((),), ("do",), ("row", ()), (0, 1, 2), tuple(range(4000)), (0,) * 4000,
    [], [0], [0, 1, 2], [[]], [("row", ())], list(range(4000)),
    {}, {0: 1}, {"do": ((), 0, 1)}, {(0, 1): []}, {None: {}}, {True: False},
    nested((), 40, lambda value: (value,)),
    nested((), 39, lambda value: [value]),
    nested(0, 40, lambda value: {"back": value}),
    nested((0, 1), 39, lambda value: ("back", value)),
    nested("", 39, lambda value: ([value], 0, 1)),
)


def raised(call, *args, **named):
    """Return the error that a call raises, None if it returns."""
    try:
        call(*args, **named)
    except Exception as error:
        return error
    return None


@contextmanager
def within(seconds):
    """Fail if what stands below takes longer."""

    def late(number, frame):
        raise AssertionError(f"not done within {seconds} seconds")

    before = signal.signal(signal.SIGALRM, late)
    signal.alarm(seconds)
    try:
        yield
    finally:
        signal.alarm(0)
        signal.signal(signal.SIGALRM, before)


def kinds_within(value):
    """Return value with the kind of each thing in it, for comparisons in which True is not 1."""
    if isinstance(value, (tuple, list)):
        return (type(value).__name__, [kinds_within(item) for item in value])
    return (type(value).__name__, value)


def check_call(test, call, **named):
    """Check a call by place and by name, twice, and that what is handed in stays; return the result."""
    before = copy.deepcopy(named)
    result = call(*named.values())
    for again in (call(**named), call(*named.values())):
        test.assertEqual(kinds_within(again), kinds_within(result))
    test.assertEqual(named, before)
    return result


def check_raise(test, call, kind, fields, **named):
    """Check that a call raises just this kind of error with these fields, by place and by name, twice."""
    before = copy.deepcopy(named)
    for error in (raised(call, *named.values()), raised(call, **named), raised(call, *named.values())):
        test.assertIs(type(error), kind)
        test.assertEqual({name: getattr(error, name) for name in fields}, fields)
    test.assertEqual(named, before)


def lots_by_size(n):
    """Return the list, for each size, of the lots of n."""
    return [list(combinations(range(n), size)) for size in range(n + 1)]


def some_tables(n, many, seed):
    """Return drawn tables of n: each lot goes anywhere among those of its size, and its riders as they like."""
    chance = random.Random(seed)
    return [_drawn_table(n, chance) for _ in range(many)]


def _drawn_table(n, chance):
    entries = []
    for lots in lots_by_size(n):
        for lot, aim in zip(lots, chance.sample(lots, len(lots))):
            free = [place for place in range(n) if place not in aim]
            chance.shuffle(free)
            entries.append(tuple([-1 if place in lot else free.pop() for place in range(n)]))
    return tuple(entries)


def led_by(n, table, standing):
    """Return what a table makes of a standing, found rider by rider."""
    lots = [lot for lots in lots_by_size(n) for lot in lots]
    entry = table[lots.index(tuple([place for place in range(n) if standing[place] == 0]))]
    behind = {entry[place]: standing[place] for place in range(n) if standing[place] > 0}
    return tuple([behind.get(place, 0) for place in range(n)])


def table_by(n, leads):
    """Return the table of what leads does to standings, lot by lot."""
    entries = []
    for lots in lots_by_size(n):
        for lot in lots:
            behind = leads(tuple([0 if place in lot else 50 + place for place in range(n)]))
            entries.append(tuple([-1 if place in lot else behind.index(50 + place) for place in range(n)]))
    return tuple(entries)
