"""Programs: rows, asks, signals and inputs, checked when they are put together."""

from openruns.drafts import Draft
from openruns.errors import InvalidArgument
from openruns.forms import copied, replaced
from openruns.words import is_integer


class Program(Draft):
    """A program that runs can be begun with. It never changes."""

    def __init__(self, rows, *, asks=None, signals=None, inputs=("go",)):
        Draft.__init__(self, rows, asks, signals, inputs, False)

    def rows(self):
        """Return the list of rows."""
        return copied(self.row_list)

    def asks(self):
        """Return the answers of each ask."""
        return dict(self.ask_table)

    def signals(self):
        """Return the room and the words of each signal."""
        return dict(self.signal_table)

    def inputs(self):
        """Return the words with which a run may begin."""
        return self.input_words

    def paths(self):
        """Return the paths of all rows, ascending."""
        return list(self.plan.places)

    def row_at(self, path):
        """Return the row at a path."""
        if not self.has_path(path):
            raise InvalidArgument("path")
        return copied([self.plan.flat[self.plan.numbers[path]]])[0]

    def names(self):
        """Return the labels, the slots and the ids of gates that the rows name."""
        return {kind: list(self.name_table[kind]) for kind in self.name_table}

    def with_rows(self, path, rows):
        """Return a program in which the rows of a list stand for the row at a path."""
        if not self.has_path(path):
            raise InvalidArgument("path")
        if not isinstance(rows, list):
            raise InvalidArgument("rows")
        changed = replaced(self.row_list, path, rows)
        return Program(changed, asks=self.ask_table, signals=self.signal_table, inputs=self.input_words)

    def has_path(self, path):
        """Tell whether any value is the path of a row."""
        if not isinstance(path, tuple) or not all([is_integer(number) for number in path]):
            return False
        return path in self.plan.numbers

    def __len__(self):
        return len(self.plan.flat)

    def __eq__(self, other):
        return (isinstance(other, Program) and self.row_list == other.row_list
                and self.ask_table == other.ask_table and self.signal_table == other.signal_table
                and self.input_words == other.input_words)

    def __ne__(self, other):
        return not self == other
