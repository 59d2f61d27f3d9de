"""Arguments that several functions take, and their checks."""

from openruns.errors import InvalidArgument
from openruns.programs import Program
from openruns.words import is_integer

KINDS = ("write", "read")


def check_program(value, part):
    """Raise InvalidArgument if any value is no program."""
    if not isinstance(value, Program):
        raise InvalidArgument(part)


def check_kind(value):
    """Raise InvalidArgument if any value is no kind of histories."""
    if not isinstance(value, str) or value not in KINDS:
        raise InvalidArgument("kind")


def check_flag(value, part):
    """Raise InvalidArgument if any value is no flag."""
    if not isinstance(value, bool):
        raise InvalidArgument(part)


def check_integer(value, least, most, part):
    """Raise InvalidArgument if any value is no integer from least to most; there may be no most."""
    if not is_integer(value) or value < least or (most is not None and value > most):
        raise InvalidArgument(part)
