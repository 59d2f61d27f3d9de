"""Readers: how a program reads one turn of a well-formed history."""

from openruns.errors import Breaks, Falls
from openruns.moments import label_of
from openruns.turns import turn_done


class ReadPen:
    """Takes the commands of a turn that stand there already; the turn begins at an index of its history."""

    def __init__(self, turn, start):
        self.turn = turn
        self.start = start
        self.taken = 1

    def write(self, command):
        """Take the next command, which has to be this one."""
        if self.next_command() != command:
            raise Breaks(self.start + self.taken, "other")
        self.taken += 1

    def note_word(self, number, words):
        """Take the next command, which has to be a note of one of these words, and return the word."""
        command = self.next_command()
        if command[0] != "noted" or command[1] not in words:
            raise Breaks(self.start + self.taken, "other")
        self.taken += 1
        return command[1]

    def settle(self, name):
        """Tell whether a gate that is not settled yet is settled as new, and take its mark then."""
        if self.taken == len(self.turn) or self.turn[self.taken] != ("marked", name):
            return False
        self.taken += 1
        return True

    def pass_gate(self, name):
        """Take the mark of a past row's gate that is not settled yet, if there is one."""
        self.settle(name)

    def next_command(self):
        """Return the next command, which has to be there."""
        if self.taken == len(self.turn):
            raise Breaks(self.start + self.taken, "more")
        return self.turn[self.taken]

    def finish(self):
        """Look for commands that were not taken."""
        if self.taken < len(self.turn):
            raise Breaks(self.start + self.taken, "fewer")


def moment_read(program, moment, turn, start):
    """Return the moment after a turn that is read, or raise Breaks.

    The turn stands at the index start of a well-formed history that the program
    has read up to there; before its first turn, the moment is None.
    """
    word = fault_of(program, moment, turn[0])
    if word is not None:
        raise Breaks(start, word)
    pen = ReadPen(turn, start)
    try:
        done = turn_done(program, moment, turn[0], pen)
    except Falls:
        raise Breaks(start, "falls") from None
    pen.finish()
    return done.moment


def fault_of(program, moment, token):
    """Return the word with which reading breaks at an outer token before any row, or None."""
    if token[0] == "begin":
        return None if token[1] in program.input_words else "word"
    if token[0] == "answer":
        name = moment.labels[label_of(moment, token[1])][2]
        return None if token[2] in program.ask_table[name] else "word"
    if token[0] == "signal":
        return signal_fault(program, moment, token)
    return None


def signal_fault(program, moment, token):
    """Return the word with which reading breaks at a signal before any row, or None."""
    if token[1] not in program.signal_table:
        return "word"
    room, words = program.signal_table[token[1]]
    if token[2] not in words:
        return "word"
    return "full" if len(moment.boxes[token[1]]) >= room else None
