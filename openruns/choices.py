"""Choices: all the turns of one kind that may come behind a moment."""

from openruns.errors import Falls
from openruns.moments import outer_tokens
from openruns.turns import turn_done


class ChoicePen:
    """Writes the commands of a turn, and chooses where a turn of its kind may go on in several ways.

    choices lists the places of what was chosen among its options, first as they
    were given, then the first place each time; many lists how many options there
    were.
    """

    def __init__(self, kind, choices):
        self.kind = kind
        self.choices = list(choices)
        self.many = []
        self.written = []

    def write(self, command):
        """Write a command."""
        self.written.append(command)

    def note_word(self, number, words):
        """Choose a note among words."""
        word = words[self.choose(len(words))]
        self.write(("noted", word))
        return word

    def settle(self, name):
        """Tell whether a gate that is not settled yet is settled as new: in reading, it may be old."""
        if self.kind == "read" and self.choose(2) == 1:
            return False
        self.write(("marked", name))
        return True

    def pass_gate(self, name):
        """Write the mark of a past row's gate that is not settled yet: in reading, it may stand there."""
        if self.kind == "read" and self.choose(2) == 1:
            self.write(("marked", name))

    def choose(self, many):
        """Return the place of the chosen one of several options."""
        turn_of_choice = len(self.many)
        self.many.append(many)
        if turn_of_choice == len(self.choices):
            self.choices.append(0)
        return self.choices[turn_of_choice]

    def next_choices(self):
        """Return the choices with which the next way begins, or None behind the last way."""
        for place in reversed(range(len(self.many))):
            if self.choices[place] + 1 < self.many[place]:
                return self.choices[:place] + [self.choices[place] + 1]
        return None


def coming_tokens(program, moment):
    """Return the outer tokens that may come, ascending; before the first turn, the moment is None."""
    if moment is None:
        return [("begin", word) for word in sorted(program.input_words)]
    return outer_tokens(program, moment)


def tried_turns(program, moment, kind):
    """Try all turns behind a moment, and return those that are kept and those that fall.

    A kept one is a tuple of its tokens, the moment after it and the numbers of
    the rows it has done; one that falls is a tuple of the tokens ahead of the
    fall, the word and the path.
    """
    kept = []
    fallen = []
    for token in coming_tokens(program, moment):
        choices = []
        while choices is not None:
            pen = ChoicePen(kind, choices)
            try:
                turn = turn_done(program, moment, token, pen)
                kept.append(((token, *pen.written), turn.moment, turn.done))
            except Falls as fall:
                fallen.append(((token, *pen.written), fall.word, fall.path))
            choices = pen.next_choices()
    return kept, fallen
