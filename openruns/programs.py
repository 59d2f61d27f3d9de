"""Programs: rows, asks, signals and inputs, checked when they are put together."""

from openruns.errors import InvalidArgument, InvalidProgram
from openruns.forms import INPUT_SLOT, check_rows, copied, replaced, words_named
from openruns.plans import Plan
from openruns.words import are_words, is_integer, is_word

MOST_ASKS = 6
MOST_ANSWERS = 4
MOST_SIGNALS = 3
MOST_ROOM = 3
MOST_SIGNAL_WORDS = 3
MOST_INPUTS = 3
MOST_ROWS = 60
MOST_LABELS = 6
MOST_SLOTS = 4
MOST_GATES = 8


class Program:
    """A program that runs can be begun with. It never changes."""

    def __init__(self, rows, *, asks=None, signals=None, inputs=("go",)):
        self.ask_table = checked_table(asks, "asks", MOST_ASKS)
        self.signal_table = checked_table(signals, "signals", MOST_SIGNALS)
        if not are_words(inputs, MOST_INPUTS):
            raise InvalidProgram("inputs", ())
        self.input_words = inputs
        check_rows(rows, self.ask_table, self.signal_table)
        self.row_list = copied(rows)
        self.plan = Plan(self.row_list)
        self.name_table = named_in(self.plan.flat)
        check_sizes(self.plan, self.name_table)

    def rows(self):
        """Return the list of rows."""
        return copied(self.row_list)

    def asks(self):
        """Return the answers of each ask."""
        return dict(self.ask_table)

    def signals(self):
        """Return the room and the words of each signal."""
        return dict(self.signal_table)

    def inputs(self):
        """Return the words with which a run may begin."""
        return self.input_words

    def paths(self):
        """Return the paths of all rows, ascending."""
        return list(self.plan.places)

    def row_at(self, path):
        """Return the row at a path."""
        if not self.has_path(path):
            raise InvalidArgument("path")
        return copied([self.plan.flat[self.plan.numbers[path]]])[0]

    def names(self):
        """Return the labels, the slots and the ids of gates that the rows name."""
        return {kind: list(self.name_table[kind]) for kind in self.name_table}

    def with_rows(self, path, rows):
        """Return a program in which the rows of a list stand for the row at a path."""
        if not self.has_path(path):
            raise InvalidArgument("path")
        if not isinstance(rows, list):
            raise InvalidArgument("rows")
        changed = replaced(self.row_list, path, rows)
        return Program(changed, asks=self.ask_table, signals=self.signal_table, inputs=self.input_words)

    def has_path(self, path):
        """Tell whether any value is the path of a row."""
        if not isinstance(path, tuple) or not all([is_integer(number) for number in path]):
            return False
        return path in self.plan.numbers

    def __len__(self):
        return len(self.plan.flat)

    def __eq__(self, other):
        return (isinstance(other, Program) and self.row_list == other.row_list
                and self.ask_table == other.ask_table and self.signal_table == other.signal_table
                and self.input_words == other.input_words)

    def __ne__(self, other):
        return not self == other


def checked_table(value, part, most):
    """Return a copy of the asks or of the signals, for which None may stand."""
    if value is None:
        return {}
    if not isinstance(value, dict) or len(value) > most:
        raise InvalidProgram(part, ())
    for name, entry in value.items():
        if not is_word(name) or not is_entry(entry, part):
            raise InvalidProgram(part, ())
    return dict(value)


def is_entry(entry, part):
    """Tell whether any value may stand for a name in the asks or in the signals."""
    if part == "asks":
        return are_words(entry, MOST_ANSWERS)
    if not isinstance(entry, tuple) or len(entry) != 2:
        return False
    room, words = entry
    return is_integer(room) and 1 <= room <= MOST_ROOM and are_words(words, MOST_SIGNAL_WORDS)


def named_in(flat):
    """Return the different words that all rows name: labels, slots and ids of gates, ascending."""
    labels = sorted({word for row in flat for word in words_named(row, ("label", "labels"))})
    slots = sorted({word for row in flat for word in words_named(row, ("slot", "source"))})
    gates = sorted({word for row in flat for word in words_named(row, ("gate",))})
    return {"labels": labels, "slots": [slot for slot in slots if slot != INPUT_SLOT], "gates": gates}


def check_sizes(plan, names):
    """Raise InvalidProgram if there are too many rows or names."""
    if len(plan.flat) > MOST_ROWS:
        raise InvalidProgram("size", ())
    if len(names["labels"]) > MOST_LABELS:
        raise InvalidProgram("labels", ())
    if len(names["slots"]) > MOST_SLOTS:
        raise InvalidProgram("slots", ())
    if len(names["gates"]) > MOST_GATES:
        raise InvalidProgram("gates", ())
