"""The errors that the package raises; each keeps its arguments as they were passed."""


class RidersError(ValueError):
    """What stands above all errors of this package."""


class Unfit(RidersError):
    """An argument does not fit what is asked."""


class BadText(RidersError):
    """A value is not the text of anything that is read here."""


class BadProgram(RidersError):
    """A value is no program; error tells why."""

    def __init__(self, error):
        self.error = error


class Barred(RidersError):
    """No program does what is asked; paper shows why."""

    def __init__(self, paper):
        self.paper = paper


class TooMany(RidersError):
    """Something is more than limit."""

    def __init__(self, limit):
        self.limit = limit


class NoName(RidersError):
    """The given value is none of the names that are kept."""

    def __init__(self, given):
        self.given = given


class Taken(RidersError):
    """The given name is one of the names that are kept."""

    def __init__(self, given):
        self.given = given


class BadBatch(RidersError):
    """A value is no batch of edits."""


class Rejected(RidersError):
    """The edit at a place of a batch raised an error."""

    def __init__(self, place):
        self.place = place


class TooManyEdits(RidersError):
    """As many edits stand as may."""


class NothingToUndo(RidersError):
    """No edit stands."""


class NothingToRedo(RidersError):
    """No edit was taken back that could be done again."""


class NoVersion(RidersError):
    """The given value is the number of no version."""

    def __init__(self, given):
        self.given = given
