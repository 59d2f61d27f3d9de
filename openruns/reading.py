"""Reading: what a well-formed history is, and how a program reads one."""

from openruns.errors import Breaks, InvalidArgument, InvalidHistory
from openruns.moments import standing_of
from openruns.programs import Program
from openruns.readers import moment_read
from openruns.runs import run_at
from openruns.trails import Trail, has_form, is_outer


def check(history):
    """Return the number of turns of a well-formed history."""
    return len(cut(history))


def cut(history):
    """Return the turns of a well-formed history."""
    if not isinstance(history, list):
        raise InvalidHistory(-1)
    if len(history) == 0:
        raise InvalidHistory(0)
    trail = Trail()
    turns = []
    for at, token in enumerate(history):
        if not trail.may_go_on(token):
            raise InvalidHistory(at)
        trail.go_on(token)
        if is_outer(token):
            turns.append([])
        turns[-1].append(token)
    return turns


def aged(history):
    """Return the turns of a well-formed history with the numbers of things by age."""
    trail = Trail()
    return [turn_by_age(trail, turn) for turn in cut(history)]


def turn_by_age(trail, turn):
    """Go over a turn and return it with the numbers of things by age."""
    told = []
    for token in turn:
        trail.go_on(token)
        told.append(trail.by_age(token))
    return told


def numbered(turns):
    """Return the history whose turns by age these are."""
    if not isinstance(turns, list) or len(turns) == 0:
        raise InvalidArgument("turns")
    trail = Trail()
    history = []
    for turn in turns:
        history.extend(turn_by_number(trail, turn))
    return history


def turn_by_number(trail, turn):
    """Go over any value that should be a turn by age, and return the turn as the history has it."""
    if not isinstance(turn, list) or len(turn) == 0:
        raise InvalidArgument("turns")
    trail.begin_turn()
    told = []
    for number, token in enumerate(turn):
        if not has_form(token) or is_outer(token) != (number == 0):
            raise InvalidArgument("turns")
        named = trail.by_number(token)
        if not trail.may_go_on(named):
            raise InvalidArgument("turns")
        trail.go_on(named)
        told.append(named)
    return told


class Reader:
    """A program that has read some turns of a history, and how its reading broke, if it did."""

    def __init__(self, program):
        self.program = program
        self.moment = None
        self.turns_read = 0
        self.tokens_read = 0
        self.breach = None

    def read_turns(self, turns):
        """Read turns until they are all read or the reading breaks."""
        for turn in turns:
            try:
                self.moment = moment_read(self.program, self.moment, turn, self.tokens_read)
            except Breaks as fault:
                self.breach = (fault.at, fault.word)
                return
            self.turns_read += 1
            self.tokens_read += len(turn)


def reader_of(program, history):
    """Return the program as the reader of a history, behind its last turn or where the reading broke."""
    if not isinstance(program, Program):
        raise InvalidArgument("program")
    reader = Reader(program)
    reader.read_turns(cut(history))
    return reader


def read(program, history):
    """Return the standing behind a history that the program reads, or how the reading breaks."""
    reader = reader_of(program, history)
    if reader.breach is not None:
        return ("breaks",) + reader.breach
    return ("reads", standing_of(program, reader.moment))


def good_turns(program, history):
    """Return how many turns the program reads before the reading breaks."""
    return reader_of(program, history).turns_read


def resume(program, history):
    """Return the run that goes on live behind a history that the program reads."""
    reader = reader_of(program, history)
    if reader.breach is not None:
        at, word = reader.breach
        raise Breaks(at, word)
    return run_at(program, reader.moment, history)
