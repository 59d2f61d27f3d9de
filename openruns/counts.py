"""Counting histories: how many there are, and their places in ascending order."""

from openruns.arguments import check_integer, check_kind, check_program
from openruns.errors import InvalidArgument, LimitExceeded
from openruns.grounds import Ground
from openruns.reading import aged, numbered

MOST_TURNS = 60
MOST_STANDINGS = 1000


class Tally:
    """How many histories of a kind with a number of turns there are.

    first_roads lists the turns from the empty beginning, and later_roads[k]
    those from standing k; none from the standings that only histories with all
    the turns have. sums[more][k] is in how many ways as many more turns may
    follow on standing k, wherever so many may still follow.
    """

    def __init__(self, program, turns, kind):
        self.ground = Ground(program)
        self.kind = kind
        self.first_roads = self.ground.roads_by(None, kind)
        self.later_roads = []
        for level in range(1, turns):
            self.lay_level()
        unlaid = len(self.ground.found) - len(self.later_roads)
        self.later_roads.extend([[] for number in range(unlaid)])
        self.sums = [[1 for roads in self.later_roads]]
        for more in range(1, turns):
            last = self.sums[-1]
            self.sums.append([sum([last[behind] for turn, behind in roads]) for roads in self.later_roads])

    def lay_level(self):
        """Find the turns from the standings that one more turn has come to."""
        level_end = len(self.ground.found)
        if level_end > MOST_STANDINGS:
            raise LimitExceeded(MOST_STANDINGS)
        while len(self.later_roads) < level_end:
            self.later_roads.append(self.ground.roads_by(len(self.later_roads), self.kind))

    def roads_behind(self, number):
        """Return the turns from a standing; None stands for the empty beginning."""
        return self.first_roads if number is None else self.later_roads[number]

    def ways_over(self, roads, more):
        """Return in how many ways one of some turns may come and as many more turns may follow."""
        return sum([self.sums[more][behind] for turn, behind in roads])


def how_many(program, turns, *, kind="read"):
    """Return the number of histories of a kind with a number of turns."""
    check_program(program, "program")
    check_integer(turns, 1, MOST_TURNS, "turns")
    check_kind(kind)
    tally = Tally(program, turns, kind)
    return tally.ways_over(tally.first_roads, turns - 1)


def history_at(program, turns, place, *, kind="read"):
    """Return the history of a kind at a place among all those with a number of turns."""
    check_program(program, "program")
    check_integer(turns, 1, MOST_TURNS, "turns")
    check_integer(place, 0, None, "place")
    check_kind(kind)
    tally = Tally(program, turns, kind)
    if place >= tally.ways_over(tally.first_roads, turns - 1):
        raise InvalidArgument("place")
    number = None
    left = place
    told = []
    for more in reversed(range(turns)):
        turn, number, left = road_at(tally, number, more, left)
        told.append(list(turn))
    return numbered(told)


def road_at(tally, number, more, place):
    """Return the turn from a standing in which a place lies, the standing behind it, and the place within it."""
    roads = tally.roads_behind(number)
    left = place
    at = 0
    while left >= tally.sums[more][roads[at][1]]:
        left -= tally.sums[more][roads[at][1]]
        at += 1
    turn, behind = roads[at]
    return turn, behind, left


def place_of(program, history, *, kind="read"):
    """Return the place of a history among all those of a kind with as many turns."""
    check_program(program, "program")
    turns = [tuple(turn) for turn in aged(history)]
    if len(turns) > MOST_TURNS:
        raise InvalidArgument("history")
    check_kind(kind)
    tally = Tally(program, len(turns), kind)
    number = None
    place = 0
    for done, turn in enumerate(turns):
        roads = tally.roads_behind(number)
        number = number_behind(roads, turn)
        place += tally.ways_over([road for road in roads if road[0] < turn], len(turns) - 1 - done)
    return place


def number_behind(roads, turn):
    """Return the number of the standing behind a turn, which has to be one of some roads."""
    for road, behind in roads:
        if road == turn:
            return behind
    raise InvalidArgument("history")
