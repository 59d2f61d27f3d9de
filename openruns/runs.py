"""Runs: a program and the history of one run, which goes on by live turns."""

from openruns.errors import InvalidArgument
from openruns.moments import may_come, outer_tokens, standing_of
from openruns.programs import Program
from openruns.turns import LivePen, turn_done
from openruns.words import are_notes


class Run:
    """A run of a program."""

    def __init__(self, program, word, notes=()):
        if not isinstance(program, Program):
            raise InvalidArgument("program")
        if word not in program.input_words:
            raise InvalidArgument("word")
        if not are_notes(notes):
            raise InvalidArgument("notes")
        self.program = program
        self.moment = None
        self.tokens = []
        self.do_turn(("begin", word), notes)

    def outer(self):
        """Return the outer tokens that may come, ascending."""
        return outer_tokens(self.program, self.moment)

    def tell(self, token, notes=()):
        """Do a live turn and return the list of its commands."""
        if not may_come(self.program, self.moment, token):
            raise InvalidArgument("token")
        if not are_notes(notes):
            raise InvalidArgument("notes")
        return self.do_turn(token, notes)

    def __call__(self, token, notes=()):
        return self.tell(token, notes)

    def history(self):
        """Return the history."""
        return list(self.tokens)

    def standing(self):
        """Return all that matters for the future of the run."""
        return standing_of(self.program, self.moment)

    def fork(self):
        """Return an independent run with the same program and history."""
        return run_at(self.program, self.moment, self.tokens)

    @property
    def over(self):
        """True if the run is over."""
        return self.moment.closing is not None

    def do_turn(self, token, notes):
        """Do a live turn; if it falls or lacks a note, nothing has changed."""
        pen = LivePen(notes)
        self.moment = turn_done(self.program, self.moment, token, pen).moment
        self.tokens.append(token)
        self.tokens.extend(pen.written)
        return pen.written


def run_at(program, moment, tokens):
    """Return the run of a program that is at a moment, with the tokens of its history."""
    # A run comes into being by a live begin turn only, so one that cannot fall
    # is done first: that of a program without rows.
    run = Run(Program([]), "go")
    run.program = program
    run.moment = moment
    run.tokens = list(tokens)
    return run
