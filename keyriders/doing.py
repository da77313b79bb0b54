"""What programs do, told by tables: however many deeds that are."""

from keyriders.lots import lot_number
from keyriders.programs import program_worth
from keyriders.standings import keys_of
from keyriders.tables import both, deed_table, power, still, undone


class TableMeasure:
    """The table of what is done, for n places."""

    def __init__(self, n):
        self._n = n

    def of_deed(self, deed):
        """Return the table of a deed."""
        return deed_table(self._n, deed)

    def of_row(self, worths):
        """Return the table of terms done one behind another."""
        table = still(self._n)
        for worth in worths:
            table = both(self._n, table, worth)
        return table

    def of_back(self, worth):
        """Return the table of what is undone."""
        return undone(self._n, worth)

    def of_times(self, worth, k):
        """Return the table of what is done k times."""
        return power(self._n, worth, k)


def table_of(n, program):
    """Return the table of what a program does."""
    return program_worth(program, TableMeasure(n))


def led(n, table, standing):
    """Return what comes of a standing by a table."""
    entry = table[lot_number(n, keys_of(standing))]
    behind = [0] * n
    for place, item in enumerate(standing):
        if item != 0:
            behind[entry[place]] = item
    return tuple(behind)
