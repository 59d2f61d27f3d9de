"""The errors that the program raises."""


class OpenError(LookupError):
    """The base class of all errors that the program raises."""


class InputError(OpenError):
    """Something that was passed in is invalid."""


class InvalidProgram(InputError):
    """A part of a program is invalid, a row of it at a path."""

    def __init__(self, part, path):
        self.part = part
        self.path = path


class InvalidHistory(InputError):
    """A history is not well-formed from a token on."""

    def __init__(self, at):
        self.at = at


class InvalidText(InputError):
    """A line of a text cannot stand at its place."""

    def __init__(self, line):
        self.line = line


class InvalidArgument(InputError):
    """An argument is invalid; the part is the name of its parameter."""

    def __init__(self, part):
        self.part = part


class InvalidNote(InputError):
    """A note is missing or is not one of the words of its row."""

    def __init__(self, at):
        self.at = at


class RunError(OpenError):
    """A run cannot do what it is asked for."""


class Falls(RunError):
    """A turn falls at the row at a path."""

    def __init__(self, word, path):
        self.word = word
        self.path = path


class Breaks(RunError):
    """The reading of a history breaks at a token."""

    def __init__(self, at, word):
        self.at = at
        self.word = word


class NoRun(RunError):
    """There is no run of this name."""

    def __init__(self, name):
        self.name = name


class Taken(RunError):
    """There is a run of this name already."""

    def __init__(self, name):
        self.name = name


class LimitExceeded(OpenError):
    """A search reaches more than a limit allows."""

    def __init__(self, limit):
        self.limit = limit
