"""Runs: a program and the history of one run, which goes on by live turns."""

from openruns.errors import InvalidArgument
from openruns.moments import outer_tokens, standing_of
from openruns.programs import Program
from openruns.turns import LivePen, moment_after
from openruns.words import are_notes, is_integer


class Run:
    """A run of a program."""

    def __init__(self, program, word, notes=()):
        if not isinstance(program, Program):
            raise InvalidArgument("program")
        if word not in program.input_words:
            raise InvalidArgument("word")
        if not are_notes(notes):
            raise InvalidArgument("notes")
        self.program = program
        self.moment = None
        self.tokens = []
        self.do_turn(("begin", word), notes)

    def outer(self):
        """Return the outer tokens that may come, ascending."""
        return outer_tokens(self.program, self.moment)

    def tell(self, token, notes=()):
        """Do a live turn and return the list of its commands."""
        if not self.may_come(token):
            raise InvalidArgument("token")
        if not are_notes(notes):
            raise InvalidArgument("notes")
        return self.do_turn(token, notes)

    def __call__(self, token, notes=()):
        return self.tell(token, notes)

    def history(self):
        """Return the history."""
        return list(self.tokens)

    def standing(self):
        """Return all that matters for the future of the run."""
        return standing_of(self.program, self.moment)

    def fork(self):
        """Return an independent run with the same program and history."""
        return run_at(self.program, self.moment, self.tokens)

    @property
    def over(self):
        """True if the run is over."""
        return self.moment.closing is not None

    def may_come(self, token):
        """Tell whether any value is an outer token that may come."""
        if not isinstance(token, tuple):
            return False
        # Without this, True would pass for the thing 1.
        if not all([isinstance(part, str) or is_integer(part) for part in token]):
            return False
        return token in self.outer()

    def do_turn(self, token, notes):
        """Do a live turn; if it falls or lacks a note, nothing has changed."""
        pen = LivePen(notes)
        self.moment = moment_after(self.program, self.moment, token, pen)
        self.tokens.append(token)
        self.tokens.extend(pen.written)
        return pen.written


def run_at(program, moment, tokens):
    """Return the run of a program that is at a moment, with the tokens of its history."""
    # A run comes into being by a live begin turn only, so one that cannot fall
    # is done first: that of a program without rows.
    run = Run(Program([]), "go")
    run.program = program
    run.moment = moment
    run.tokens = list(tokens)
    return run
