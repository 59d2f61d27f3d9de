"""Outlooks: how long runs stay open."""

from openruns.books import Book, steps_to_end
from openruns.graphs import heights, nodes_before, steps_to
from openruns.reading import cut, numbered
from openruns.searches import numbers_behind, numbers_over, turns_to


class Outlook(Book):
    """A book that also tells how long runs stay open."""

    def __init__(self, program, *, kind="write", limit=1000):
        Book.__init__(self, program, kind=kind, limit=limit)
        self.behind_lists = numbers_behind(self.search)
        self.end_steps = steps_to_end(self.search)
        self.end_heights = heights(self.behind_lists, numbers_over(self.search))

    def soonest(self, standing):
        """Return the least number of turns from a standing to one that is over, or None."""
        return self.end_steps[self.checked_number(standing)]

    def rank(self, standing):
        """Return the greatest number of turns from a standing that surely ends, or None for another one."""
        return self.end_heights[self.checked_number(standing)]

    def longest_open(self):
        """Return the greatest number of turns of a history that is not over, or None if there is no bound."""
        over = {number: True for number in numbers_over(self.search)}
        open_behind = [[other for other in others if other not in over] for others in self.behind_lists]
        ends = [number for number, others in enumerate(open_behind) if len(others) == 0]
        tall = heights(open_behind, ends)
        open_heights = [height for number, height in enumerate(tall) if number not in over]
        if None in open_heights:
            return None
        return 1 + max(open_heights, default=-1)

    def ring(self):
        """Return the least history that comes back to a standing, and after how many turns that was first reached."""
        if self.longest_open() is not None:
            return None
        turns, many = min([self.ring_by(number, steps) for number, steps in self.shortest_rings()])
        return ([token for turn in turns for token in turn], many)

    def shortest_rings(self):
        """Return the standings to which histories with the fewest turns come back.

        With each of them stands the number of steps to it from each standing, or
        None where it is of no use. The turns to the standing and those round from
        it are as few as can be, each for itself; otherwise there were fewer turns.
        """
        before = nodes_before(self.behind_lists)
        fewest = 2 * len(before)
        rings = []
        for number, level in enumerate(self.search.levels):
            steps = steps_to(before, [number], fewest - level)
            rounds = [1 + steps[other] for other in self.behind_lists[number] if steps[other] is not None]
            turns = level + min(rounds, default=fewest)
            if turns < fewest:
                fewest = turns
                rings = []
            if turns == fewest:
                rings.append((number, steps))
        return rings

    def ring_by(self, number, steps):
        """Return the least turns by which a shortest history comes back to a standing, and the turns to it."""
        turns = turns_to(self.search, number)
        many = len(turns)
        here = number
        left = min([steps[other] for other in self.behind_lists[number] if steps[other] is not None])
        while left >= 0:
            # The turns ascend, so the first one on a shortest way is the least one.
            turn, here = [road for road in self.search.roads[here] if steps[road[1]] == left][0]
            turns.append(list(turn))
            left -= 1
        return (cut(numbered(turns)), many)
