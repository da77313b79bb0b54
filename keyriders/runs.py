"""Runs: programs that are done deed by deed."""

from keyriders.bounds import MAX_STEPS
from keyriders.deeds import done
from keyriders.errors import TooMany
from keyriders.programs import program_worth


class StepsMeasure:
    """The tuple of the deeds that are done, in order; None stands for more than MAX_STEPS of them."""

    def of_deed(self, deed):
        """Return the deed alone."""
        return (deed,)

    def of_row(self, worths):
        """Return the deeds of terms, one term behind another."""
        deeds = []
        for worth in worths:
            if worth is None or len(deeds) + len(worth) > MAX_STEPS:
                return None
            deeds.extend(worth)
        return tuple(deeds)

    def of_back(self, worth):
        """Return the deeds that undo some deeds."""
        return None if worth is None else worth[::-1]

    def of_times(self, worth, k):
        """Return some deeds k times one behind another."""
        # What does nothing may be done more often than a tuple could be repeated.
        if k == 0 or worth == ():
            return ()
        if worth is None or len(worth) * k > MAX_STEPS:
            return None
        return worth * k


def run(n, program, standing):
    """Return the standing behind a program."""
    deeds = program_worth(program, StepsMeasure())
    if deeds is None:
        raise TooMany(MAX_STEPS)
    behind = standing
    for deed in deeds:
        behind = done(behind, deed)
    return behind
