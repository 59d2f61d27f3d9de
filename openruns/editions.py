"""Editions: programs that are put to use one after the other and take runs over from one another."""

from openruns.arguments import check_integer, check_program
from openruns.errors import InvalidArgument, LimitExceeded
from openruns.forms import changed
from openruns.grounds import Ground
from openruns.over import MOST_PAIRS
from openruns.programs import Program
from openruns.reading import cut
from openruns.relays import Follower, Relays, least_broken, switch_lists
from openruns.sweeps import Sweep, history_with

MOST_EDITIONS = 4
MOST_TURNS = 40


class Editions:
    """Editions of a program, numbered in the order in which they are put to use. They never change."""

    def __init__(self, programs):
        if not are_editions(programs):
            raise InvalidArgument("programs")
        self.program_list = list(programs)

    def programs(self):
        """Return the list of the editions."""
        return list(self.program_list)

    def __len__(self):
        return len(self.program_list)

    def __add__(self, other):
        return Editions([*self.program_list, other])

    def first_break(self, *, since=0, limit=10000):
        """Return the least open history that a later edition does not read, how it was written and breaks, or None."""
        check_integer(since, 0, len(self.program_list) - 1, "since")
        check_integer(limit, 1, MOST_PAIRS, "limit")
        return least_break(grounds_of(self.program_list), since, limit)

    def nodes(self, *, since=0, limit=10000):
        """Return what open histories come to with all editions, or None if a later one does not read one of them."""
        check_integer(since, 0, len(self.program_list) - 1, "since")
        check_integer(limit, 1, MOST_PAIRS, "limit")
        relays = Relays(grounds_of(self.program_list), since)
        sweep = Sweep(relays, limit)
        if sweep.breach is not None:
            return None
        return [relays.told_node(node) for node in sweep.nodes_found]

    def authors(self, history):
        """Return all switch lists by which a history can have been written, sorted."""
        turns = cut(history)
        if len(turns) > MOST_TURNS:
            raise LimitExceeded(MOST_TURNS)
        return switch_lists([Follower(program, turns) for program in self.program_list], len(turns))

    def safe_since(self, program, *, limit=10000):
        """Return the least edition from which on runs may have begun so that they never break with one more edition."""
        check_program(program, "program")
        check_integer(limit, 1, MOST_PAIRS, "limit")
        grounds = grounds_of([*self.program_list, program])
        since = 0
        while least_break(grounds, since, limit) is not None:
            since += 1
        return since

    def retired(self, id_word, *, row="past"):
        """Return the last edition without the old rows of a gate, with past rows or with part rows in its place."""
        last = self.program_list[-1]
        if not isinstance(id_word, str) or id_word not in last.name_table["gates"]:
            raise InvalidArgument("id_word")
        if not isinstance(row, str) or row not in ("past", "part"):
            raise InvalidArgument("row")
        rows = changed(last.row_list, lambda old_row: retired_row(old_row, id_word, row))
        return Program(rows, asks=last.ask_table, signals=last.signal_table, inputs=last.input_words)


def are_editions(value):
    """Tell whether any value is a list or tuple of as many programs as may be editions."""
    if not isinstance(value, (list, tuple)) or not 1 <= len(value) <= MOST_EDITIONS:
        return False
    return all([isinstance(item, Program) for item in value])


def grounds_of(programs):
    """Return a ground for each of some programs."""
    return [Ground(program) for program in programs]


def least_break(grounds, since, limit):
    """Return what first_break tells of the editions that have these grounds."""
    sweep = Sweep(Relays(grounds, since), limit)
    if sweep.breach is None:
        return None
    number, turn = sweep.breach
    history = history_with(sweep, number, turn)
    turns = cut(history)
    followers = [Follower(ground.program, turns) for ground in grounds]
    switches, breach = least_broken(followers, len(turns), since)
    at, word = breach
    return (history, switches, at, word)


def retired_row(row, name, kind):
    """Return the row that stands for a row when the gates of an id are retired."""
    if row[0] not in ("gate", "past") or row[1] != name:
        return row
    return ("past", name, row[2]) if kind == "past" else ("part", row[2])
