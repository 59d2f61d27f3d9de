"""Old programs and new ones: whether a new program reads the histories of an old one."""

from openruns.arguments import check_flag, check_integer, check_kind, check_program
from openruns.grounds import Ground
from openruns.searches import has_shape
from openruns.sweeps import Sweep, history_with
from openruns.trails import LAST_WORDS

MOST_PAIRS = 10000

# How deep tuples are nested in a pair of standings: the pair, a standing, boxes, a box, its words.
DEEPEST_PAIR = 5


class Pairs:
    """A course of pairs: the numbers of a standing of old and of one of new, behind turns of old that new reads.

    listed is None, or a dict that has pairs of standings; then any other pair is
    a fault.
    """

    def __init__(self, old, new, kind, ended, listed):
        self.old_ground = Ground(old)
        self.new_ground = Ground(new)
        self.kind = kind
        self.ended = ended
        self.listed = listed

    def ways(self, node):
        """Return the turns of old behind a pair, each with the pair behind it, or None if there is a fault."""
        old_number, new_number = (None, None) if node is None else node
        ways = []
        for turn, old_behind in self.old_ground.roads_by(old_number, self.kind):
            if self.ended or turn[-1][0] not in LAST_WORDS:
                ways.append((turn, self.pair_behind(old_behind, new_number, turn)))
        return ways

    def pair_behind(self, old_behind, new_number, turn):
        """Return the pair behind a turn, or None if there is a fault."""
        new_behind = self.new_ground.read_turn(new_number, turn)[0]
        if new_behind is None:
            return None
        pair = (old_behind, new_behind)
        return pair if self.listed is None or self.standings_in(pair) in self.listed else None

    def standings_in(self, pair):
        """Return the standings that a pair has the numbers of."""
        old_number, new_number = pair
        return (self.old_ground.found[old_number], self.new_ground.found[new_number])


def parting(old, new, *, ended=False, limit=10000):
    """Return the least history that old writes and new does not read, and how its reading breaks, or None."""
    check_all(old, new, "write", ended, limit)
    return least_break(old, new, "write", ended, limit)


def taking(old, new, *, ended=False, limit=10000):
    """Return the least history that old reads and new does not, and how its reading breaks, or None."""
    check_all(old, new, "read", ended, limit)
    return least_break(old, new, "read", ended, limit)


def table(old, new, *, kind="write", ended=False, limit=10000):
    """Return the pairs of standings that histories of old come to, or None if new does not read them all."""
    check_all(old, new, kind, ended, limit)
    pairs = Pairs(old, new, kind, ended, None)
    sweep = Sweep(pairs, limit)
    if sweep.breach is not None:
        return None
    return [pairs.standings_in(pair) for pair in sweep.nodes_found]


def is_table(old, new, value, *, kind="write", ended=False):
    """Tell whether any value is a list with all pairs of standings, and new reads all histories of old."""
    check_all(old, new, kind, ended, MOST_PAIRS)
    if not isinstance(value, list):
        return False
    listed = {item: True for item in value if has_shape(item, DEEPEST_PAIR)}
    return Sweep(Pairs(old, new, kind, ended, listed), None).breach is None


def check_all(old, new, kind, ended, limit):
    """Check the arguments that the functions of this file take, in their order."""
    check_program(old, "old")
    check_program(new, "new")
    check_kind(kind)
    check_flag(ended, "ended")
    check_integer(limit, 1, MOST_PAIRS, "limit")


def least_break(old, new, kind, ended, limit):
    """Return the least history of a kind that new does not read, and how its reading breaks, or None."""
    pairs = Pairs(old, new, kind, ended, None)
    sweep = Sweep(pairs, limit)
    if sweep.breach is None:
        return None
    number, turn = sweep.breach
    new_number = None if number is None else sweep.nodes_found[number][1]
    offset, word = pairs.new_ground.read_turn(new_number, turn)[1]
    history = history_with(sweep, number, turn)
    return (history, len(history) - len(turn) + offset, word)
