"""The forms of rows: what their parts stand for, and the lists of rows within them."""

# What the parts of a row behind its first one stand for. A "slot" is written,
# a "source" is only read, so only a source may be the slot of the input.
FORMS = {
    "ask": ("ask", "label"),
    "timer": ("label",),
    "await": ("label", "slot"),
    "first": ("labels", "slot"),
    "drop": ("label",),
    "take": ("signal", "slot"),
    "note": ("slot", "words"),
    "put": ("slot", "word"),
    "if": ("source", "word", "rows", "rows"),
    "loop": ("rows",),
    "leave": (),
    "part": ("rows",),
    "both": ("sides",),
    "gate": ("gate", "rows", "rows"),
    "past": ("gate", "rows"),
    "edit": ("edit", "rows", "rows"),
    "end": ("source",),
    "anew": ("source",),
}

# The rows that only edited programs have.
EDIT = "edit"

INPUT_SLOT = "in"


def lists_of(row):
    """Return the lists of rows within a row, as a new list."""
    lists = []
    for form, part in zip(FORMS[row[0]], row[1:]):
        if form == "rows":
            lists.append(part)
        elif form == "sides":
            lists.extend(part)
    return lists


def with_lists(row, lists):
    """Return a row with other lists of rows within it, as many as it has."""
    if row[0] == "both":
        return ("both", tuple(lists))
    return row[:len(row) - len(lists)] + tuple(lists)


def words_named(row, forms):
    """Return the words that a row names in the parts that stand for one of these forms."""
    named = []
    for form, part in zip(FORMS[row[0]], row[1:]):
        if form in forms and isinstance(part, tuple):
            named.extend(part)
        elif form in forms:
            named.append(part)
    return named


def copied(rows):
    """Return a copy of a valid list of rows that shares no list with it."""
    return [with_lists(row, [copied(inner) for inner in lists_of(row)]) for row in rows]


def replaced(rows, path, others):
    """Return a list of rows in which other rows stand for the row at a path."""
    at = path[0]
    if len(path) == 1:
        return rows[:at] + others + rows[at + 1:]
    lists = lists_of(rows[at])
    lists[path[1]] = replaced(lists[path[1]], path[2:], others)
    return rows[:at] + [with_lists(rows[at], lists)] + rows[at + 1:]


def changed(rows, change):
    """Return a list of rows in which change(row) stands for each row, the rows within it changed already."""
    return [change(with_lists(row, [changed(inner, change) for inner in lists_of(row)])) for row in rows]
