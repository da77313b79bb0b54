"""Worths: what terms of programs do, worked out once and kept."""

from keyriders.doing import TableMeasure, led
from keyriders.programs import term_worth, with_parts_at
from keyriders.programtexts import program_text


class Worths:
    """The tables of terms of n places that were worked out.

    Each is kept under the text of its term, in which a part has the number of its table: so it counts what a part does,
    not where it stands, or by which deeds it does that.
    """

    def __init__(self, n):
        self._n = n
        self._tables = {}
        self._numbers = {}

    def how_many(self):
        """Return how many unlike worths were worked out."""
        return len(self._tables)

    def twin(self):
        """Return Worths that keep the same, and go on by themselves."""
        other = Worths(self._n)
        other._tables = {text: self._tables[text] for text in self._tables}
        other._numbers = {table: self._numbers[table] for table in self._numbers}
        return other

    def table_of_program(self, program):
        """Return the table of what a program does."""
        measure = TableMeasure(self._n)
        tables = []
        numbers = []
        for term in program:
            text = program_text((with_parts_at(term, numbers),))
            if text not in self._tables:
                self._tables[text] = term_worth(term, tables, measure)
            tables.append(self._tables[text])
            numbers.append(self._number_of(tables[-1]))
        return tables[-1]

    def standing_behind(self, program, standing):
        """Return the standing behind a program."""
        return led(self._n, self.table_of_program(program), standing)

    def _number_of(self, table):
        """Return the number under which a table is known, a new one if it was not met yet."""
        if table not in self._numbers:
            self._numbers[table] = len(self._numbers)
        return self._numbers[table]
