"""Drafts: what programs and edited programs are made of, checked when it is put together."""

from openruns.checks import RowCheck
from openruns.errors import InvalidProgram
from openruns.forms import INPUT_SLOT, copied, words_named
from openruns.plans import Plan
from openruns.words import are_words, is_integer, is_word

MOST_ASKS = 6
MOST_ANSWERS = 4
MOST_SIGNALS = 3
MOST_ROOM = 3
MOST_SIGNAL_WORDS = 3
MOST_INPUTS = 3
MOST_ROWS = 60
MOST_LABELS = 6
MOST_SLOTS = 4
MOST_GATES = 8


class Draft:
    """Rows with their asks, signals and inputs; with_edits tells whether edit rows may be among them.

    It never changes, and keeps copies of what it was made of.
    """

    def __init__(self, rows, asks, signals, inputs, with_edits):
        self.ask_table = checked_table(asks, "asks", MOST_ASKS)
        self.signal_table = checked_table(signals, "signals", MOST_SIGNALS)
        if not are_words(inputs, MOST_INPUTS):
            raise InvalidProgram("inputs", ())
        self.input_words = inputs
        RowCheck(self.ask_table, self.signal_table, with_edits).check_rows(rows)
        self.row_list = copied(rows)
        self.plan = Plan(self.row_list)
        self.name_table = named_in(self.plan.flat)
        check_sizes(self.plan, self.name_table)


def checked_table(value, part, most):
    """Return a copy of the asks or of the signals, for which None may stand."""
    if value is None:
        return {}
    if not isinstance(value, dict) or len(value) > most:
        raise InvalidProgram(part, ())
    for name, entry in value.items():
        if not is_word(name) or not is_entry(entry, part):
            raise InvalidProgram(part, ())
    return dict(value)


def is_entry(entry, part):
    """Tell whether any value may stand for a name in the asks or in the signals."""
    if part == "asks":
        return are_words(entry, MOST_ANSWERS)
    if not isinstance(entry, tuple) or len(entry) != 2:
        return False
    room, words = entry
    return is_integer(room) and 1 <= room <= MOST_ROOM and are_words(words, MOST_SIGNAL_WORDS)


def named_in(flat):
    """Return the different words that all rows name: labels, slots and ids of gates, ascending."""
    labels = sorted({word for row in flat for word in words_named(row, ("label", "labels"))})
    slots = sorted({word for row in flat for word in words_named(row, ("slot", "source"))})
    gates = sorted({word for row in flat for word in words_named(row, ("gate", "edit"))})
    return {"labels": labels, "slots": [slot for slot in slots if slot != INPUT_SLOT], "gates": gates}


def check_sizes(plan, names):
    """Raise InvalidProgram if there are too many rows or names."""
    if len(plan.flat) > MOST_ROWS:
        raise InvalidProgram("size", ())
    if len(names["labels"]) > MOST_LABELS:
        raise InvalidProgram("labels", ())
    if len(names["slots"]) > MOST_SLOTS:
        raise InvalidProgram("slots", ())
    if len(names["gates"]) > MOST_GATES:
        raise InvalidProgram("gates", ())
