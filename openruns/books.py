"""Books of standings: all that histories of one kind come to, and how turns lead from one to another."""

from openruns.arguments import check_integer, check_kind, check_program
from openruns.errors import InvalidArgument
from openruns.graphs import nodes_before, steps_to
from openruns.moments import may_come, standing_of
from openruns.reading import numbered
from openruns.searches import FALL_WORDS, Search, number_of, numbers_behind, numbers_over, turns_to
from openruns.turns import LivePen, turn_done
from openruns.words import are_notes

MOST_STANDINGS = 1000


class Book:
    """All standings of a program that histories of one kind have."""

    def __init__(self, program, *, kind="write", limit=1000):
        check_program(program, "program")
        check_kind(kind)
        check_integer(limit, 1, MOST_STANDINGS, "limit")
        self.search = Search(program, kind, limit)

    def standings(self):
        """Return the standings in the order of their least histories."""
        return list(self.search.found)

    def __len__(self):
        return len(self.search.found)

    def __contains__(self, x):
        return number_of(self.search, x) is not None

    def least_history(self, standing):
        """Return the least history that has a standing."""
        return numbered(turns_to(self.search, self.checked_number(standing)))

    def turns_of(self, standing):
        """Return the turns from a standing by age, ascending, each with the standing behind it."""
        roads = self.search.roads[self.checked_number(standing)]
        return [(list(turn), self.search.found[number]) for turn, number in roads]

    def step(self, standing, token, notes=()):
        """Return the standing behind a live turn from a standing."""
        program = self.search.program
        moment = self.search.moments[self.checked_number(standing)]
        if not may_come(program, moment, token):
            raise InvalidArgument("token")
        if not are_notes(notes):
            raise InvalidArgument("notes")
        return standing_of(program, turn_done(program, moment, token, LivePen(notes)).moment)

    def falls(self):
        """Return, for each word with which turns fall, the least of them."""
        return [self.told_fall(word) for word in FALL_WORDS if word in self.search.first_falls]

    def stuck(self):
        """Return the standings that are not over and have no turns."""
        search = self.search
        return [standing for standing, roads in zip(search.found, search.roads) if is_stuck(standing, roads)]

    def trapped(self):
        """Return the standings from which no turns lead to one that is over."""
        steps = steps_to_end(self.search)
        return [standing for number, standing in enumerate(self.search.found) if steps[number] is None]

    def unused_paths(self):
        """Return the paths of the rows that no turn does, ascending."""
        places = self.search.program.plan.places
        return [path for row, path in enumerate(places) if row not in self.search.used_rows]

    def checked_number(self, standing):
        """Return the number of any value, which has to be a standing of the book."""
        number = number_of(self.search, standing)
        if number is None:
            raise InvalidArgument("standing")
        return number

    def told_fall(self, word):
        """Return what is told of the least turn that falls with a word."""
        number, turn, path = self.search.first_falls[word]
        tokens = numbered(turns_to(self.search, number) + [list(turn)])
        start = len(tokens) - len(turn)
        return (word, path, tokens[:start], tokens[start], tokens[start + 1:])


def is_stuck(standing, roads):
    """Tell whether a standing with these turns is not over and has none."""
    return standing[0] == "at" and len(roads) == 0


def steps_to_end(search):
    """Return for each standing the least number of turns to one that is over, or None."""
    before = nodes_before(numbers_behind(search))
    return steps_to(before, numbers_over(search), len(before))
