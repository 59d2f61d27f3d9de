"""Grounds: the standings of a program that were come to, and the turns between them."""

from openruns.choices import tried_turns
from openruns.errors import Breaks
from openruns.moments import moment_by_age, standing_of
from openruns.readers import moment_read


class Ground:
    """Standings of a program, numbered in the order in which they were come to.

    For standing k, found[k] is the standing, and moments[k] a moment that has it,
    with its things numbered by age. Wherever the number of a standing is passed,
    None stands for the empty beginning. What was asked once is kept: road_lists
    has the turns of a kind from a standing, and readings what came of reading a
    turn.
    """

    def __init__(self, program):
        self.program = program
        self.found = []
        self.numbers = {}
        self.moments = []
        self.road_lists = {}
        self.readings = {}

    def moment_at(self, number):
        """Return a moment that has a standing."""
        return None if number is None else self.moments[number]

    def number_at(self, moment):
        """Return the number of the standing of a moment, which may be a new one."""
        standing = standing_of(self.program, moment)
        if standing not in self.numbers:
            self.numbers[standing] = len(self.found)
            self.found.append(standing)
            self.moments.append(moment_by_age(moment))
        return self.numbers[standing]

    def roads_by(self, number, kind):
        """Return, ascending, the turns by age from a standing, each with the number of the standing behind it."""
        if (number, kind) not in self.road_lists:
            kept = tried_turns(self.program, self.moment_at(number), kind)[0]
            # In this order, so that standings that are new have the numbers of their least histories.
            roads = [(turn, self.number_at(after)) for turn, after, done in sorted(kept, key=lambda tried: tried[0])]
            self.road_lists[(number, kind)] = roads
        return self.road_lists[(number, kind)]

    def read_turn(self, number, turn):
        """Read a turn by age from a standing.

        Return the number of the standing behind it and None; or None and how the
        reading breaks, with the index in the turn and the word.
        """
        if (number, turn) not in self.readings:
            try:
                after = moment_read(self.program, self.moment_at(number), turn, 0)
                self.readings[(number, turn)] = (self.number_at(after), None)
            except Breaks as fault:
                self.readings[(number, turn)] = (None, (fault.at, fault.word))
        return self.readings[(number, turn)]
