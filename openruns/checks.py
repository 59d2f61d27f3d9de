"""Checks of rows: which row of a program is the first invalid one."""

from openruns.errors import InvalidProgram
from openruns.forms import EDIT, FORMS, INPUT_SLOT, lists_of
from openruns.words import are_words, is_word

DEEPEST = 5
MOST_IN_ROW = 3


class RowCheck:
    """Goes over the rows of a program, each before the rows in its lists.

    with_edits tells whether edit rows may stand there. seen_edits has the ids of
    the edit rows that were gone over, and seen_gates those of the gate and past
    rows.
    """

    def __init__(self, ask_table, signal_table, with_edits):
        self.ask_table = ask_table
        self.signal_table = signal_table
        self.with_edits = with_edits
        self.seen_edits = {}
        self.seen_gates = {}

    def check_rows(self, rows):
        """Raise InvalidProgram with the path of the first invalid row of any value."""
        if not isinstance(rows, list):
            raise InvalidProgram("rows", ())
        self.check_list(rows, (), False)

    def check_list(self, rows, prefix, in_loop):
        """Check a list of rows whose paths begin with a prefix; in_loop tells whether it may leave a loop."""
        for number, row in enumerate(rows):
            path = prefix + (number,)
            if not self.has_form(row) or not may_stand(row, path, in_loop) or not self.is_new(row):
                raise InvalidProgram("rows", path)
            inner_in_loop = row[0] == "loop" or (in_loop and row[0] != "both")
            for place, inner in enumerate(lists_of(row)):
                self.check_list(inner, path + (place,), inner_in_loop)

    def has_form(self, row):
        """Tell whether any value has one of the forms of a row, whatever its lists contain."""
        if not isinstance(row, tuple) or len(row) == 0:
            return False
        if not isinstance(row[0], str) or row[0] not in FORMS or (row[0] == EDIT and not self.with_edits):
            return False
        forms = FORMS[row[0]]
        if len(row) != 1 + len(forms):
            return False
        return all([self.fits(form, part) for form, part in zip(forms, row[1:])])

    def fits(self, form, part):
        """Tell whether any value may be the part of a row that stands for this form."""
        if form == "ask":
            return is_word(part) and part in self.ask_table
        if form == "signal":
            return is_word(part) and part in self.signal_table
        if form == "slot":
            return is_word(part) and part != INPUT_SLOT
        if form in ("labels", "words"):
            return are_words(part, MOST_IN_ROW)
        if form == "rows":
            return isinstance(part, list)
        if form == "sides":
            return are_sides(part)
        return is_word(part)

    def is_new(self, row):
        """Tell whether a row has no id that it may not share with an earlier row; keep its id."""
        forms = FORMS[row[0]]
        if "edit" in forms:
            is_free = row[1] not in self.seen_edits and row[1] not in self.seen_gates
            self.seen_edits[row[1]] = True
            return is_free
        if "gate" in forms:
            self.seen_gates[row[1]] = True
            return row[1] not in self.seen_edits
        return True


def are_sides(part):
    """Tell whether any value is a tuple of two or three lists."""
    if not isinstance(part, tuple) or len(part) not in (2, 3):
        return False
    return all([isinstance(side, list) for side in part])


def may_stand(row, path, in_loop):
    """Tell whether a row of a right form may stand at a path."""
    if row[0] == "leave":
        return in_loop
    depth = (len(path) + 1) // 2
    return depth < DEEPEST or len(lists_of(row)) == 0
