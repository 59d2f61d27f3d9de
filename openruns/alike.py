"""Programs alike: the languages of programs, and whether two programs have the same ones."""

from openruns.arguments import check_integer, check_kind, check_program
from openruns.classes import class_behind, classes_of, paired_ways, pairs_behind, table_of, ways_behind
from openruns.errors import InvalidArgument
from openruns.reading import cut
from openruns.searches import Search
from openruns.sweeps import Sweep, history_with
from openruns.trails import gone_over, renumbered, turns_in
from openruns.words import is_integer

MOST_STANDINGS = 1000

# The kinds of the languages by which programs are compared, in their order.
KINDS_IN_TURN = ("read", "write")


class Histories:
    """A set of histories, with the table of its classes.

    standing_lists has for each class the standings of its histories, where they
    are told.
    """

    def __init__(self, table, standing_lists):
        self.table = table
        self.behind_turns = ways_behind(table)
        self.standing_lists = standing_lists

    def rows(self):
        """Return the table."""
        return self.table

    def __len__(self):
        return len(self.table)

    def __getitem__(self, at):
        if not is_class(at, self.table):
            raise InvalidArgument("k")
        return self.table[at]

    def __iter__(self):
        raise TypeError("a set of histories is not iterated over")

    def __contains__(self, x):
        if not isinstance(x, list) or len(x) == 0 or gone_over(x)[0] is not None:
            return False
        return class_behind(self.behind_turns, turns_by_age(x)) is not None

    def __eq__(self, other):
        return isinstance(other, Histories) and self.table == other.table

    def within(self, other):
        """Tell whether each history of this set is in another one."""
        if not isinstance(other, Histories):
            raise InvalidArgument("other")
        inner, outer = self.behind_turns, other.behind_turns
        pairs = paired_ways(inner, outer, True)[0]
        return all([turn in outer[there] for here, there in pairs for turn in inner[here]])

    def __and__(self, other):
        if not isinstance(other, Histories):
            return NotImplemented
        table = joined_table(self.behind_turns, other.behind_turns, True)
        return Histories(table, [[] for row in table])

    def __or__(self, other):
        if not isinstance(other, Histories):
            return NotImplemented
        table = joined_table(self.behind_turns, other.behind_turns, False)
        return Histories(table, [[] for row in table])

    def class_of(self, history):
        """Return the number of the class of a history of the set."""
        cut(history)
        number = class_behind(self.behind_turns, turns_by_age(history))
        if number is None:
            raise InvalidArgument("history")
        return number

    def standings(self, k):
        """Return the standings of the histories of a class, where they are told."""
        if not is_class(k, self.table):
            raise InvalidArgument("k")
        return list(self.standing_lists[k])


class Language(Histories):
    """The set of the histories of one kind of a program."""

    def __init__(self, program, *, kind="read", limit=1000):
        check_program(program, "program")
        check_kind(kind)
        check_integer(limit, 1, MOST_STANDINGS, "limit")
        search = Search(program, kind, limit)
        ways = [[(turn, number + 1) for turn, number in roads] for roads in [search.first_roads, *search.roads]]
        classes = classes_of(ways)
        table = table_of(ways, classes)
        found = list(zip(classes[1:], search.found))
        Histories.__init__(self, table, [[told for number, told in found if number == k] for k in range(len(table))])


def is_class(value, table):
    """Tell whether any value is the number of a class of a table."""
    return is_integer(value) and 0 <= value < len(table)


def turns_by_age(history):
    """Return the turns by age of a well-formed history as tuples."""
    return [tuple(turn) for turn in turns_in(renumbered(history, True))]


def joined_table(one, other, in_both):
    """Return the table of the histories that are in both of two sets, or in at least one."""
    ways = paired_ways(one, other, in_both)[1]
    return table_of(ways, classes_of(ways))


def alike(one, other, *, limit=1000):
    """Tell whether two programs read the same histories and write the same histories."""
    return all([first == second for first, second in languages_of(one, other, limit)])


def parted(one, other, *, limit=1000):
    """Return the kind and the least history that just one of two programs reads or just one writes, or None."""
    found = []
    for (first, second), kind in zip(languages_of(one, other, limit), KINDS_IN_TURN):
        if first != second:
            history = least_parted(first, second)
            turns = cut(history)
            found.append((len(turns), turns, kind, history))
    if len(found) == 0:
        return None
    many, turns, kind, history = min(found)
    return (kind, history)


class Split:
    """A course of the pairs of classes in two sets; a turn behind one of them alone is a fault."""

    def __init__(self, one, other):
        self.one = one
        self.other = other

    def ways(self, node):
        """Return the turns behind a pair, each with the pair behind it, or None if there is a fault."""
        pair = (0, 0) if node is None else node
        roads = pairs_behind(self.one.behind_turns, self.other.behind_turns, pair, False)
        return [(turn, None if None in behind else behind) for turn, behind in roads]


def least_parted(one, other):
    """Return the least history that is in just one of two sets that differ."""
    sweep = Sweep(Split(one, other), None)
    number, turn = sweep.breach
    return history_with(sweep, number, turn)


def languages_of(one, other, limit):
    """Return, for reading and then for writing, the two languages of two programs."""
    check_program(one, "one")
    check_program(other, "other")
    check_integer(limit, 1, MOST_STANDINGS, "limit")
    return [(Language(one, kind=kind, limit=limit), Language(other, kind=kind, limit=limit)) for kind in KINDS_IN_TURN]
