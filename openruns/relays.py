"""Relays: how editions of a program take runs over from one another, turn by turn."""

from openruns.errors import Breaks, Falls, InvalidNote
from openruns.moments import may_come
from openruns.readers import moment_read
from openruns.trails import LAST_WORDS
from openruns.turns import LivePen, turn_done

# In place of the number of a standing where an edition does not read the history.
BROKEN = -1


class Relays:
    """A course of nodes: the numbers of the standings of all editions and the editions that may have written last.

    The histories that are looked at are open ones of runs that an edition
    numbered since or more began.
    """

    def __init__(self, grounds, since):
        self.grounds = grounds
        self.since = since

    def ways(self, node):
        """Return the turns behind a node, each with the node behind it, or None if a later edition does not read it."""
        numbers, writers = (tuple([None for ground in self.grounds]), (self.since,)) if node is None else node
        lives = [self.live_turns(edition, numbers[edition], writers[0]) for edition in range(len(self.grounds))]
        turns = sorted({turn for live in lives for turn in live if turn[-1][0] not in LAST_WORDS})
        return [(turn, self.node_behind(numbers, lives, turn)) for turn in turns]

    def live_turns(self, edition, number, first_writer):
        """Return the turns that an edition may write, with the numbers of the standings behind them."""
        if edition < first_writer or number == BROKEN:
            return {}
        return {turn: behind for turn, behind in self.grounds[edition].roads_by(number, "write")}

    def node_behind(self, numbers, lives, turn):
        """Return the node behind a turn, or None if a later edition does not read it."""
        behind = []
        for edition, number in enumerate(numbers):
            if turn in lives[edition]:
                behind.append(lives[edition][turn])
            else:
                behind.append(number_read(self.grounds[edition], number, turn))
        writers = [edition for edition, live in enumerate(lives) if turn in live]
        return None if BROKEN in behind[writers[0] + 1:] else (tuple(behind), tuple(writers))

    def told_node(self, node):
        """Return the standings of all editions and the editions that may have written last."""
        numbers, writers = node
        return (tuple([told_standing(ground, number) for ground, number in zip(self.grounds, numbers)]), writers)


def number_read(ground, number, turn):
    """Return the number of the standing of an edition behind a turn that it reads, or BROKEN."""
    if number == BROKEN:
        return BROKEN
    behind = ground.read_turn(number, turn)[0]
    return BROKEN if behind is None else behind


def told_standing(ground, number):
    """Return the standing that has a number, or the word for BROKEN."""
    return "broken" if number == BROKEN else ground.found[number]


class Follower:
    """An edition that follows the turns of a history.

    writes tells of each turn whether the edition reads all turns before it and
    may write it live. breach is None, or where and with which word the reading of
    the history breaks.
    """

    def __init__(self, program, turns):
        self.program = program
        self.writes = []
        self.breach = None
        moment = None
        start = 0
        for turn in turns:
            self.writes.append(self.breach is None and is_live(program, moment, turn))
            if self.breach is None:
                try:
                    moment = moment_read(program, moment, turn, start)
                except Breaks as fault:
                    self.breach = (fault.at, fault.word)
            start += len(turn)


def is_live(program, moment, turn):
    """Tell whether a turn of a well-formed history is a live turn behind a moment of a program."""
    token = turn[0]
    if moment is None:
        if token[1] not in program.input_words:
            return False
    elif not may_come(program, moment, token):
        return False
    pen = LivePen([command[1] for command in turn if command[0] == "noted"])
    try:
        turn_done(program, moment, token, pen)
    except (Falls, InvalidNote):
        return False
    return pen.written == turn[1:]


def switch_lists(followers, many):
    """Return all switch lists by which a history with as many turns can have been written, sorted."""
    lists = [((0, edition),) for edition, follower in enumerate(followers) if follower.writes[0]]
    for done in range(1, many):
        later = []
        for switches in lists:
            last = switches[-1][1]
            if followers[last].writes[done]:
                later.append(switches)
            following = [edition for edition in range(last + 1, len(followers)) if followers[edition].writes[done]]
            later.extend([switches + ((done, edition),) for edition in following])
        lists = later
    return sorted(lists)


def least_broken(followers, many, since):
    """Return the least switch list with which a run breaks behind as many turns, and the breach."""
    leads = leads_to_break(followers, many)
    last = [edition for edition in range(since, len(followers)) if leads[0][edition]][0]
    switches = ((0, last),)
    for done in range(1, many):
        # A switch that comes early makes a list less than one that comes late.
        following = [edition for edition in range(last + 1, len(followers)) if leads[done][edition]]
        if len(following) > 0:
            last = following[0]
            switches = switches + ((done, last),)
    broken = [edition for edition in range(last + 1, len(followers)) if followers[edition].breach is not None][0]
    return switches + ((many, broken),), followers[broken].breach


def leads_to_break(followers, many):
    """Return for each turn the flags of the editions that may write it in a run that breaks behind as many turns."""
    editions = list(range(len(followers)))
    broken = [follower.breach is not None for follower in followers]
    # Behind the last turn, one of the later editions has to be broken.
    leads = [[follower.writes[many - 1] and any(broken[edition + 1:]) for edition, follower in enumerate(followers)]]
    for done in reversed(range(many - 1)):
        behind = leads[-1]
        leads.append([followers[edition].writes[done] and any(behind[edition:]) for edition in editions])
    return leads[::-1]
