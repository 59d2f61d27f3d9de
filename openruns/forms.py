"""The forms of rows: what their parts stand for, and the lists of rows within them."""

from openruns.errors import InvalidProgram
from openruns.words import are_words, is_word

# What the parts of a row behind its first one stand for. A "slot" is written,
# a "source" is only read, so only a source may be the slot of the input.
FORMS = {
    "ask": ("ask", "label"),
    "timer": ("label",),
    "await": ("label", "slot"),
    "first": ("labels", "slot"),
    "drop": ("label",),
    "take": ("signal", "slot"),
    "note": ("slot", "words"),
    "put": ("slot", "word"),
    "if": ("source", "word", "rows", "rows"),
    "loop": ("rows",),
    "leave": (),
    "part": ("rows",),
    "both": ("sides",),
    "gate": ("gate", "rows", "rows"),
    "past": ("gate", "rows"),
    "end": ("source",),
    "anew": ("source",),
}

INPUT_SLOT = "in"
DEEPEST = 5
MOST_IN_ROW = 3


def lists_of(row):
    """Return the lists of rows within a row, as a new list."""
    lists = []
    for form, part in zip(FORMS[row[0]], row[1:]):
        if form == "rows":
            lists.append(part)
        elif form == "sides":
            lists.extend(part)
    return lists


def with_lists(row, lists):
    """Return a row with other lists of rows within it, as many as it has."""
    if row[0] == "both":
        return ("both", tuple(lists))
    return row[:len(row) - len(lists)] + tuple(lists)


def words_named(row, forms):
    """Return the words that a row names in the parts that stand for one of these forms."""
    named = []
    for form, part in zip(FORMS[row[0]], row[1:]):
        if form in forms and isinstance(part, tuple):
            named.extend(part)
        elif form in forms:
            named.append(part)
    return named


def copied(rows):
    """Return a copy of a valid list of rows that shares no list with it."""
    return [with_lists(row, [copied(inner) for inner in lists_of(row)]) for row in rows]


def replaced(rows, path, others):
    """Return a list of rows in which other rows stand for the row at a path."""
    at = path[0]
    if len(path) == 1:
        return rows[:at] + others + rows[at + 1:]
    lists = lists_of(rows[at])
    lists[path[1]] = replaced(lists[path[1]], path[2:], others)
    return rows[:at] + [with_lists(rows[at], lists)] + rows[at + 1:]


def check_rows(rows, asks, signals):
    """Raise InvalidProgram with the path of the first invalid row."""
    if not isinstance(rows, list):
        raise InvalidProgram("rows", ())
    check_list(rows, (), False, asks, signals)


def check_list(rows, prefix, in_loop, asks, signals):
    """Check a list of rows whose paths begin with a prefix; in_loop tells whether it may leave a loop."""
    for number, row in enumerate(rows):
        path = prefix + (number,)
        if not has_form(row, asks, signals) or not may_stand(row, path, in_loop):
            raise InvalidProgram("rows", path)
        inner_in_loop = row[0] == "loop" or (in_loop and row[0] != "both")
        for place, inner in enumerate(lists_of(row)):
            check_list(inner, path + (place,), inner_in_loop, asks, signals)


def has_form(row, asks, signals):
    """Tell whether any value has one of the forms of a row, whatever its lists contain."""
    if not isinstance(row, tuple) or len(row) == 0:
        return False
    if not isinstance(row[0], str) or row[0] not in FORMS:
        return False
    forms = FORMS[row[0]]
    if len(row) != 1 + len(forms):
        return False
    return all([fits(form, part, asks, signals) for form, part in zip(forms, row[1:])])


def fits(form, part, asks, signals):
    """Tell whether any value may be the part of a row that stands for this form."""
    if form == "ask":
        return is_word(part) and part in asks
    if form == "signal":
        return is_word(part) and part in signals
    if form == "slot":
        return is_word(part) and part != INPUT_SLOT
    if form in ("labels", "words"):
        return are_words(part, MOST_IN_ROW)
    if form == "rows":
        return isinstance(part, list)
    if form == "sides":
        return are_sides(part)
    return is_word(part)


def are_sides(part):
    """Tell whether any value is a tuple of two or three lists."""
    if not isinstance(part, tuple) or len(part) not in (2, 3):
        return False
    return all([isinstance(side, list) for side in part])


def may_stand(row, path, in_loop):
    """Tell whether a row of a right form may stand at a path."""
    if row[0] == "leave":
        return in_loop
    depth = (len(path) + 1) // 2
    return depth < DEEPEST or len(lists_of(row)) == 0
