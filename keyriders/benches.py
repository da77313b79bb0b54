"""Benches: programs under names, edited, taken back, and asked what they do."""

from keyriders.bounds import MAX_EDITS, MAX_TABLE
from keyriders.edits import changed, names_of, program_of
from keyriders.errors import NothingToRedo, NothingToUndo, NoVersion, RidersError, TooManyEdits, Unfit
from keyriders.standings import standing_error
from keyriders.values import is_between
from keyriders.worths import Worths

LEAST_PLACES = 3


class Bench:
    """Programs of n places under names."""

    def __init__(self, n):
        if not is_between(n, LEAST_PLACES, MAX_TABLE):
            raise Unfit()
        self._n = n
        self._worths = Worths(n)
        # Pairs of an edit and the shelf behind it, of those too that were taken back.
        self._steps = ()
        self._version = 0
        self._shelf = ()
        self._names = ()

    @property
    def n(self):
        """How many places there are."""
        return self._n

    @property
    def shelf(self):
        """The ascending tuple of the pairs of a name and its program."""
        return self._shelf

    @property
    def version(self):
        """How many edits stand."""
        return self._version

    @property
    def log(self):
        """The tuple of the edits that stand, in order."""
        return tuple([edit for edit, _ in self._steps[:self._version]])

    @property
    def made(self):
        """How many unlike worths were worked out."""
        return self._worths.how_many()

    def __len__(self):
        return len(self._names)

    def __getitem__(self, name):
        return program_of(self._shelf, name)

    def __iter__(self):
        return iter(self._names)

    def __eq__(self, other):
        return isinstance(other, Bench) and self._n == other._n and self._shelf == other._shelf

    def add(self, name, program):
        """Keep a program under a new name; return the version then, as all edits do."""
        return self._edit(("add", name, program))

    def drop(self, name):
        """Drop a name and its program."""
        return self._edit(("drop", name))

    def call(self, name, other):
        """Give a program another name."""
        return self._edit(("call", name, other))

    def put(self, name, spot, term):
        """Put a term in the place of the one at a spot of a program."""
        return self._edit(("put", name, spot, term))

    def more(self, name, term):
        """Put a term behind the last one of a program."""
        return self._edit(("more", name, term))

    def batch(self, edits):
        """Do some edits as one edit."""
        return self._edit(("batch", edits))

    def _edit(self, edit):
        """Do an edit, and forget all that were taken back; return the version then."""
        shelf = changed(self._n, self._shelf, edit)
        if self._version >= MAX_EDITS:
            raise TooManyEdits()
        return self._stand(self._steps[:self._version] + ((edit, shelf),), self._version + 1)

    def _stand(self, steps, version):
        """Let so many of some steps stand; return how many."""
        self._steps = steps
        self._version = version
        self._shelf = self._shelf_at(version)
        self._names = names_of(self._shelf)
        return version

    def _shelf_at(self, version):
        """Return the shelf when so many edits stood."""
        return self._steps[version - 1][1] if version > 0 else ()

    def table(self, name):
        """Return the table of what the program of a name does."""
        return self._worths.table_of_program(program_of(self._shelf, name))

    def led(self, name, standing):
        """Return the standing behind the program of a name."""
        program = program_of(self._shelf, name)
        if standing_error(self._n, standing) is not None:
            raise Unfit()
        return self._worths.standing_behind(program, standing)

    def alike(self, name, other):
        """Return whether the programs of two names do the same."""
        programs = [program_of(self._shelf, name), program_of(self._shelf, other)]
        one, further = [self._worths.table_of_program(program) for program in programs]
        return one == further

    def undo(self):
        """Take back the last edit that stands; return the version then."""
        if self._version == 0:
            raise NothingToUndo()
        return self._stand(self._steps, self._version - 1)

    def redo(self):
        """Do again what was taken back last; return the version then."""
        if self._version == len(self._steps):
            raise NothingToRedo()
        return self._stand(self._steps, self._version + 1)

    def at(self, version):
        """Return the shelf when so many of the edits that stand now stood."""
        if not is_between(version, 0, self._version):
            raise NoVersion(version)
        return self._shelf_at(version)

    def copy(self):
        """Return a bench like this one, which goes on by itself."""
        other = Bench(self._n)
        other._stand(self._steps, self._version)
        other._worths = self._worths.twin()
        return other

    def attempt(self, work):
        """Call work with this bench and return its result; if it raises a RidersError no edit of it stands."""
        steps = self._steps
        version = self._version
        try:
            return work(self)
        except RidersError:
            self._stand(steps, version)
            raise
