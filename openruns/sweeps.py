"""Sweeps: searches that go over the nodes of a course level by level, to the least history with a fault."""

from openruns.errors import LimitExceeded
from openruns.reading import numbered
from openruns.searches import turns_to


class Sweep:
    """What histories come to on a course, up to the least one with a fault.

    A course has ways(node), which lists, ascending, the turns by age that are
    looked at behind a node, each with the node behind it, or with None if it is
    at fault; the node None stands for the empty beginning. nodes_found has the
    nodes in the order of their least histories. For the node numbered k,
    origins[k] is the number of the node before the last turn of its least
    history, or None, and this turn. breach is the same of the least history with
    a fault, or None if there is none. Without a limit, limit is None.
    """

    def __init__(self, course, limit):
        self.course = course
        self.limit = limit
        self.nodes_found = []
        self.numbers = {}
        self.origins = []
        self.breach = None
        self.go_on_behind(None)
        at = 0
        while at < len(self.nodes_found) and self.breach is None:
            # A fault in the turns behind a level counts only what is before them.
            if limit is not None and len(self.nodes_found) > limit:
                raise LimitExceeded(limit)
            level_end = len(self.nodes_found)
            while at < level_end and self.breach is None:
                self.go_on_behind(at)
                at += 1

    def go_on_behind(self, number):
        """Go over the turns behind a node up to one that is at fault."""
        node = None if number is None else self.nodes_found[number]
        for turn, behind in self.course.ways(node):
            if behind is None:
                self.breach = (number, turn)
                return
            if behind not in self.numbers:
                self.numbers[behind] = len(self.nodes_found)
                self.nodes_found.append(behind)
                self.origins.append((number, turn))


def history_with(search, number, turn):
    """Return the least history that comes to a number, with one more turn."""
    return numbered(turns_to(search, number) + [list(turn)])
