"""Reading: what a well-formed history is, and how a program reads one."""

from openruns.errors import Breaks, InvalidArgument, InvalidHistory
from openruns.moments import standing_of
from openruns.programs import Program
from openruns.readers import moment_read
from openruns.runs import run_at
from openruns.trails import gone_over, has_form, is_outer, renumbered, turns_in


def check(history):
    """Return the number of turns of a well-formed history."""
    return len(cut(history))


def cut(history):
    """Return the turns of a well-formed history."""
    if not isinstance(history, list):
        raise InvalidHistory(-1)
    flaw = 0 if len(history) == 0 else gone_over(history)[0]
    if flaw is not None:
        raise InvalidHistory(flaw)
    return turns_in(history)


def aged(history):
    """Return the turns of a well-formed history with the numbers of things by age."""
    check(history)
    return turns_in(renumbered(history, True))


def numbered(turns):
    """Return the history whose turns by age these are."""
    if not isinstance(turns, list) or not all([is_like_turn(turn) for turn in turns]):
        raise InvalidArgument("turns")
    history = renumbered([token for turn in turns for token in turn], False)
    if history is None or len(history) == 0 or gone_over(history)[0] is not None:
        raise InvalidArgument("turns")
    return history


def is_like_turn(value):
    """Tell whether any value is a list of an outer token and of commands behind it, by their forms alone."""
    if not isinstance(value, list) or len(value) == 0 or not all([has_form(token) for token in value]):
        return False
    return is_outer(value[0]) and not any([is_outer(token) for token in value[1:]])


class Reader:
    """A program that has read some turns of a history, and how its reading broke, if it did."""

    def __init__(self, program):
        self.program = program
        self.moment = None
        self.turns_read = 0
        self.tokens_read = 0
        self.breach = None

    def read_turns(self, turns):
        """Read turns until they are all read or the reading breaks."""
        for turn in turns:
            try:
                self.moment = moment_read(self.program, self.moment, turn, self.tokens_read)
            except Breaks as fault:
                self.breach = (fault.at, fault.word)
                return
            self.turns_read += 1
            self.tokens_read += len(turn)


def reader_of(program, history):
    """Return the program as the reader of a history, behind its last turn or where the reading broke."""
    if not isinstance(program, Program):
        raise InvalidArgument("program")
    reader = Reader(program)
    reader.read_turns(cut(history))
    return reader


def read(program, history):
    """Return the standing behind a history that the program reads, or how the reading breaks."""
    reader = reader_of(program, history)
    if reader.breach is not None:
        return ("breaks",) + reader.breach
    return ("reads", standing_of(program, reader.moment))


def good_turns(program, history):
    """Return how many turns the program reads before the reading breaks."""
    return reader_of(program, history).turns_read


def resume(program, history):
    """Return the run that goes on live behind a history that the program reads."""
    reader = reader_of(program, history)
    if reader.breach is not None:
        at, word = reader.breach
        raise Breaks(at, word)
    return run_at(program, reader.moment, history)
