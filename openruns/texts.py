"""Texts of programs and of histories."""

from openruns.errors import InvalidArgument, InvalidText
from openruns.forms import EDIT, FORMS, lists_of
from openruns.programs import Program
from openruns.reading import cut
from openruns.trails import COMMAND_FORMS, OUTER_FORMS, is_outer
from openruns.words import is_word

STEP = "  "
DEEPEST_LEVEL = 12
DIGITS = "0123456789"
LONGEST_NUMBER = 5

# Forms of the parts of rows for which several words may stand, and for which lists of rows do.
SEVERAL = ("labels", "words")
INNER = ("rows", "sides")

# The line between the two lists of a row.
DIVIDERS = {"if": "else", "gate": "old"}


def program_text(program):
    """Return the text of a program."""
    if not isinstance(program, Program):
        raise InvalidArgument("program")
    asks = program.asks()
    signals = program.signals()
    lines = [" ".join(["ask", name, *asks[name]]) for name in sorted(asks)]
    for name in sorted(signals):
        room, words = signals[name]
        lines.append(" ".join(["signal", name, str(room), *words]))
    lines.append(" ".join(["inputs", *program.inputs()]))
    lines.append("rows")
    lines.extend(lines_of(program.rows(), 1))
    return "\n".join(lines)


def lines_of(rows, level):
    """Return the lines of a list of rows that stands at a level."""
    lines = []
    for row in rows:
        lines.append(STEP * level + " ".join(words_in(row)))
        lines.extend(inner_lines(row, level))
    return lines


def words_in(row):
    """Return the words on the line of a row."""
    words = [row[0]]
    for form, part in zip(FORMS[row[0]], row[1:]):
        if form in SEVERAL:
            words.extend(part)
        elif form not in INNER:
            words.append(part)
    return words


def inner_lines(row, level):
    """Return the lines of the rows within a row that stands at a level."""
    lines = []
    for number, inner in enumerate(lists_of(row)):
        if row[0] == "both":
            lines.append(STEP * (level + 1) + "side")
            lines.extend(lines_of(inner, level + 2))
        else:
            if number == 1:
                lines.append(STEP * level + DIVIDERS[row[0]])
            lines.extend(lines_of(inner, level + 1))
    return lines


class Source:
    """The lines of a text, and how many of them have been read."""

    def __init__(self, text):
        self.lines = text.split("\n")
        self.lines_read = 0

    def next_line(self):
        """Return the next line; behind the last one, an empty line, which has no form."""
        return self.lines[self.lines_read] if self.lines_read < len(self.lines) else ""

    def next_words(self):
        """Return the parts of the next line without the spaces before it."""
        return self.next_line().lstrip(" ").split(" ")

    def is_at(self, level):
        """Tell whether the next line stands at a level."""
        line = self.next_line()
        return level <= DEEPEST_LEVEL and len(line) - len(line.lstrip(" ")) == len(STEP) * level

    def go_on(self, is_right):
        """Go over the next line, which has to be right."""
        if not is_right:
            raise InvalidText(self.lines_read + 1)
        self.lines_read += 1


def read_program(text):
    """Return the program that a text is of."""
    if not isinstance(text, str):
        raise InvalidArgument("text")
    source = Source(text)
    asks = read_table(source, "ask")
    signals = read_table(source, "signal")
    inputs = source.next_words()[1:]
    source.go_on(source.is_at(0) and source.next_words()[0] == "inputs" and are_some(inputs))
    source.go_on(source.next_line() == "rows")
    rows = read_list(source, 1)
    if source.lines_read < len(source.lines):
        raise InvalidText(source.lines_read + 1)
    return Program(rows, asks=asks, signals=signals, inputs=tuple(inputs))


def are_some(words):
    """Tell whether all of some strings are words, and there is one."""
    return len(words) > 0 and all([is_word(word) for word in words])


def read_table(source, kind):
    """Read the lines of asks or of signals, and return the dict of them."""
    entries = {}
    last_name = ""
    while source.is_at(0) and source.next_words()[0] == kind:
        words = source.next_words()
        many = 2 if kind == "ask" else 3
        right = are_some(words[1:2]) and words[1] > last_name and are_some(words[many:])
        source.go_on(right and (kind == "ask" or is_digit(words[2])))
        last_name = words[1]
        entries[last_name] = tuple(words[2:]) if kind == "ask" else (int(words[2]), tuple(words[3:]))
    return entries


def read_list(source, level):
    """Read the rows of a list that stands at a level, and return it."""
    rows = []
    while source.is_at(level):
        parts = parts_of(source.next_words())
        source.go_on(len(parts) > 0)
        rows.append(tuple(parts + read_inner(source, parts[0], level)))
    return rows


def parts_of(words):
    """Return the parts of a row ahead of its lists, from the words of its line; none if it is no line of a row."""
    if not are_some(words) or words[0] not in FORMS or words[0] == EDIT:
        return []
    forms = [form for form in FORMS[words[0]] if form not in INNER]
    further = len(words) - 1 - len(forms)
    if further < 0 or (further > 0 and not any([form in SEVERAL for form in forms])):
        return []
    parts = [words[0]]
    at = 1
    for form in forms:
        if form in SEVERAL:
            parts.append(tuple(words[at:at + 1 + further]))
            at += further
        else:
            parts.append(words[at])
        at += 1
    return parts


def read_inner(source, kind, level):
    """Read the rows within a row of a kind that stands at a level, and return the parts of the row that they are."""
    many = len([form for form in FORMS[kind] if form == "rows"])
    if kind == "both":
        return [read_sides(source, level + 1)]
    lists = []
    for number in range(many):
        if number == 1:
            source.go_on(source.is_at(level) and source.next_words() == [DIVIDERS[kind]])
        lists.append(read_list(source, level + 1))
    return lists


def read_sides(source, level):
    """Read the branches of a both row, whose side lines stand at a level."""
    sides = []
    while source.is_at(level):
        source.go_on(source.next_words() == ["side"])
        sides.append(read_list(source, level + 1))
    return tuple(sides)


def is_digit(text):
    """Tell whether a string is one digit."""
    return len(text) == 1 and text in DIGITS


def history_text(history):
    """Return the text of a well-formed history."""
    return "\n".join([token_line(token) for turn in cut(history) for token in turn])


def token_line(token):
    """Return the line of a token."""
    words = " ".join([str(part) for part in token])
    return words if is_outer(token) else STEP + words


def read_history(text):
    """Return the history that a text is of."""
    if not isinstance(text, str):
        raise InvalidArgument("text")
    history = []
    for number, line in enumerate(text.split("\n")):
        token = token_of(line)
        if len(token) == 0:
            raise InvalidText(number + 1)
        history.append(token)
    cut(history)
    return history


def token_of(line):
    """Return the token of a line, or an empty tuple if it is no line of a token."""
    if line.startswith(STEP):
        words = line[len(STEP):].split(" ")
        forms = COMMAND_FORMS.get(words[0])
    else:
        words = line.split(" ")
        forms = OUTER_FORMS.get(words[0])
    if forms is None or len(words) != 1 + len(forms):
        return ()
    if not all([fits_word(form, word) for form, word in zip(forms, words[1:])]):
        return ()
    parts = [int(word) if form == "number" else word for form, word in zip(forms, words[1:])]
    return (words[0],) + tuple(parts)


def fits_word(form, word):
    """Tell whether a string may stand in a line for a part of a token that has this form."""
    if form == "word":
        return is_word(word)
    if not 1 <= len(word) <= LONGEST_NUMBER or not all([is_digit(letter) for letter in word]):
        return False
    return word == "0" or word[0] != "0"
