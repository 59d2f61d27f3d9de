"""Edits and their gates: which edits of a program need gates, so that open runs are read."""

from openruns.arguments import check_flag, check_integer
from openruns.drafts import Draft
from openruns.errors import InvalidArgument, InvalidProgram
from openruns.forms import EDIT, changed
from openruns.over import MOST_PAIRS, parting
from openruns.programs import Program
from openruns.words import is_word

MOST_EDITS = 4


class Edited(Draft):
    """A program with edit rows, each of which has new rows and old ones. It never changes."""

    def __init__(self, rows, *, asks=None, signals=None, inputs=("go",)):
        Draft.__init__(self, rows, asks, signals, inputs, True)
        self.edit_names = tuple(sorted([row[1] for row in self.plan.flat if row[0] == EDIT]))
        if len(self.edit_names) > MOST_EDITS:
            raise InvalidProgram("edits", ())

    def ids(self):
        """Return the ids of the edit rows, ascending."""
        return self.edit_names

    def plain(self):
        """Return the program with the old rows of each edit."""
        return self.with_change(plain_row)

    def cut(self, ids):
        """Return the program with the new rows of each edit, behind gates where the ids are given."""
        if not are_some_of(ids, self.edit_names):
            raise InvalidArgument("ids")
        return self.with_change(lambda row: cut_row(row, ids))

    def with_change(self, change):
        """Return the program in which change(row) stands for each row."""
        rows = changed(self.row_list, change)
        return Program(rows, asks=self.ask_table, signals=self.signal_table, inputs=self.input_words)


def are_some_of(value, names):
    """Tell whether any value is a list or tuple of different words of a tuple."""
    if not isinstance(value, (list, tuple)) or not all([is_word(item) and item in names for item in value]):
        return False
    return len(set(value)) == len(value)


def plain_row(row):
    """Return the row that stands for a row where nothing is edited."""
    return ("part", row[3]) if row[0] == EDIT else row


def cut_row(row, ids):
    """Return the row that stands for a row where all is edited, behind gates with these ids."""
    if row[0] != EDIT:
        return row
    return ("gate",) + row[1:] if row[1] in ids else ("part", row[2])


def safe_sets(edited, *, ended=False, limit=10000):
    """Return the sets of ids with whose gates all open histories are read, smaller ones first."""
    check_edited(edited)
    check_flag(ended, "ended")
    check_integer(limit, 1, MOST_PAIRS, "limit")
    return [ids for ids in sets_of(edited.ids()) if why_not(edited, ids, ended=ended, limit=limit) is None]


def least_sets(edited, *, ended=False, limit=10000):
    """Return the safe sets that contain no other safe set."""
    safe = safe_sets(edited, ended=ended, limit=limit)
    return [ids for ids in safe if not any([is_within(other, ids) for other in safe if other != ids])]


def fewest(edited, *, ended=False, limit=10000):
    """Return the first safe set."""
    return safe_sets(edited, ended=ended, limit=limit)[0]


def why_not(edited, ids, *, ended=False, limit=10000):
    """Return the least history that is not read with the gates of a set of ids, and how its reading breaks, or None."""
    check_edited(edited)
    gated = edited.cut(ids)
    check_flag(ended, "ended")
    check_integer(limit, 1, MOST_PAIRS, "limit")
    return parting(edited.plain(), gated, ended=ended, limit=limit)


def check_edited(value):
    """Raise InvalidArgument if any value is no edited program."""
    if not isinstance(value, Edited):
        raise InvalidArgument("edited")


def sets_of(ids):
    """Return all sets of some ids as tuples, smaller ones first and those of one size in ascending order."""
    found = [()]
    for name in ids:
        found = found + [chosen + (name,) for chosen in found]
    return sorted(found, key=lambda chosen: (len(chosen), chosen))


def is_within(ids, others):
    """Tell whether all of some ids are among others."""
    return all([name in others for name in ids])
