"""Searches: all standings of a program that histories of one kind have, and the turns between them."""

from openruns.choices import tried_turns
from openruns.errors import LimitExceeded
from openruns.grounds import Ground
from openruns.words import is_same

FALL_WORDS = ("busy", "free", "long", "notes")

# How deep tuples are nested in a standing: boxes, a box, its words.
DEEPEST = 4


class Search:
    """All standings of a program that histories of one kind have, numbered in the order of their least histories.

    For standing k, found[k] is the standing, moments[k] a moment that has it,
    with its things numbered by age, and roads[k] lists, ascending, the turns from
    it, each as the tuple of its tokens by age and the number of the standing
    behind it; first_roads lists those from the empty beginning. origins[k] is the
    number of the standing before the last turn of its least history, or None, and
    this turn; levels[k] is the number of turns of that history. first_falls has,
    for the words with which turns fall, the number of the first standing from
    which one does, or None, and the least such turn with the path. used_rows has
    the numbers of the rows that turns do.
    """

    def __init__(self, program, kind, limit):
        self.program = program
        self.kind = kind
        self.limit = limit
        self.ground = Ground(program)
        self.found = self.ground.found
        self.moments = self.ground.moments
        self.roads = []
        self.origins = []
        self.levels = []
        self.first_falls = {}
        self.used_rows = {}
        self.first_roads = self.roads_from(None)
        while len(self.roads) < len(self.found):
            self.roads.append(self.roads_from(len(self.roads)))

    def roads_from(self, number):
        """Return the turns from a standing; None stands for the empty beginning."""
        kept, fallen = tried_turns(self.program, self.ground.moment_at(number), self.kind)
        self.keep_falls(number, fallen)
        roads = []
        # The least histories come in order only if the turns are gone over in theirs.
        for turn, after, done in sorted(kept, key=lambda tried: tried[0]):
            roads.append((turn, self.number_behind(number, turn, after)))
            for row in done:
                self.used_rows[row] = True
        return roads

    def keep_falls(self, number, fallen):
        """Keep the least turn from a standing that falls with a word, if none has before."""
        for word in FALL_WORDS:
            told = [(turn, path) for turn, fall_word, path in fallen if fall_word == word]
            if len(told) > 0 and word not in self.first_falls:
                turn, path = min(told)
                self.first_falls[word] = (number, turn, path)

    def number_behind(self, number, turn, after):
        """Return the number of the standing behind a turn, which may be a new one."""
        behind = self.ground.number_at(after)
        if behind == self.limit:
            raise LimitExceeded(self.limit)
        if behind == len(self.origins):
            self.origins.append((number, turn))
            self.levels.append(1 if number is None else self.levels[number] + 1)
        return behind


def number_of(search, value):
    """Return the number of the standing that any value is, or None; integers and flags are told apart."""
    if not has_shape(value, DEEPEST) or value not in search.ground.numbers:
        return None
    number = search.ground.numbers[value]
    return number if is_same(value, search.found[number]) else None


def has_shape(value, depth):
    """Tell whether any value consists of words, integers and flags, in tuples nested at most so deep."""
    if isinstance(value, tuple):
        return depth > 0 and all([has_shape(part, depth - 1) for part in value])
    return isinstance(value, (str, int))


def turns_to(search, number):
    """Return the turns by age of the least history of a standing; None stands for the empty beginning."""
    turns = []
    before = number
    while before is not None:
        before, turn = search.origins[before]
        turns.append(list(turn))
    return turns[::-1]


def numbers_over(search):
    """Return the numbers of the standings that are over."""
    return [number for number, standing in enumerate(search.found) if standing[0] != "at"]


def numbers_behind(search):
    """Return for each standing the numbers of the different standings behind its turns."""
    return [sorted({number for turn, number in roads}) for roads in search.roads]
