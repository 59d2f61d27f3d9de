"""Plans: the rows of a program in one list, each with the place that comes behind it."""

from openruns.forms import lists_of

# Places that are no rows: the end of a branch's list, the end of the program's
# rows, a row at which the branch stays, and the end of the run.
THROUGH = -1
FINISH = -2
STAYS = -3
OVER = -4


class Plan:
    """The rows of a program, numbered in the order of their paths.

    For row k, flat[k] is the row, places[k] its path, behind[k] the place that
    comes after it, entries[k] the first places of its lists, and sides[k] the
    numbers of the branches that it begins. For branch k, starts[k] is its first
    place. Branch 0 is the one of the program's own list, and the numbers of the
    others ascend as their lists do, so that of several branches the one with
    the least number is the first one.
    """

    def __init__(self, rows):
        self.flat = []
        self.places = []
        self.behind = []
        self.entries = []
        self.sides = []
        self.starts = [FINISH if len(rows) == 0 else 0]
        self.lay_list(rows, (), FINISH, FINISH)
        self.numbers = {path: number for number, path in enumerate(self.places)}

    def lay_list(self, rows, prefix, end, exit_place):
        """Add the rows of a list, behind which end comes, and exit_place behind its leave rows."""
        for number, row in enumerate(rows):
            behind = end
            if number + 1 < len(rows):
                behind = len(self.flat) + size_of(row)
            self.lay_row(row, prefix + (number,), behind, exit_place)

    def lay_row(self, row, path, behind, exit_place):
        """Add a row, behind which behind comes, and the rows within it."""
        here = len(self.flat)
        self.flat.append(row)
        self.places.append(path)
        self.behind.append(exit_place if row[0] == "leave" else behind)
        self.entries.append([])
        self.sides.append([])
        for place, inner in enumerate(lists_of(row)):
            end = end_within(row, here, behind)
            first_place = end if len(inner) == 0 else len(self.flat)
            self.entries[here].append(first_place)
            if row[0] == "both":
                self.sides[here].append(len(self.starts))
                self.starts.append(first_place)
            self.lay_list(inner, path + (place,), end, behind if row[0] == "loop" else exit_place)


def size_of(row):
    """Return the number of rows that a row is, with those within it."""
    return 1 + sum([size_of(inner) for rows in lists_of(row) for inner in rows])


def end_within(row, here, behind):
    """Return the place that comes behind the lists of the row numbered here."""
    if row[0] == "loop":
        return here
    if row[0] == "both":
        return THROUGH
    return behind
