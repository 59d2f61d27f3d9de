"""Turns: what an outer token and the rows behind it do to a run."""

from openruns.errors import Falls, InvalidNote
from openruns.moments import BEGUN, moment_behind
from openruns.plans import FINISH, OVER, STAYS, THROUGH
from openruns.waiting import is_ready, leave_row

MOST_ROWS_DONE = 200
MOST_NOTES_DONE = 3
END_WORD = "done"


class LivePen:
    """Writes the commands of a live turn, and gives its rows what comes from outside."""

    def __init__(self, notes):
        self.notes = notes
        self.written = []

    def write(self, command):
        """Write a command."""
        self.written.append(command)

    def note_word(self, number, words):
        """Return the note with this number, for a row with these words."""
        if number >= len(self.notes) or self.notes[number] not in words:
            raise InvalidNote(number)
        self.write(("noted", self.notes[number]))
        return self.notes[number]

    def settle(self, name):
        """Tell whether a gate that is not settled yet is settled as new: live, it always is."""
        self.write(("marked", name))
        return True

    def pass_gate(self, name):
        """Take the mark of a past row's gate that is not settled yet: live, there is none."""


class Turn:
    """A turn whose rows are being done; done lists the numbers of those that it has come to."""

    def __init__(self, program, moment, pen):
        self.plan = program.plan
        self.moment = moment
        self.pen = pen
        self.done = []
        self.notes_done = 0

    def first_ready(self):
        """Return the first branch that can go on, or None."""
        if self.moment.closing is not None:
            return None
        for branch in sorted(self.moment.branches):
            row = self.moment.branches[branch]
            if row == BEGUN or is_ready(self.plan, self.moment, row):
                return branch
        return None

    def go_on(self, branch):
        """Let a branch go on until it stays at a row, is through, or the run is over."""
        row = self.moment.branches[branch]
        at = self.plan.starts[branch] if row == BEGUN else leave_row(self.plan, self.moment, row)
        while at >= 0:
            row = at
            at = self.come_to(row)
        if at == STAYS:
            self.moment.branches[branch] = row
        elif at == THROUGH:
            del self.moment.branches[branch]
        elif at == FINISH:
            self.close(("ended", END_WORD))

    def come_to(self, row):
        """Do the row that a branch comes to, and return the place where it goes on."""
        if len(self.done) == MOST_ROWS_DONE:
            self.fall("long", row)
        self.done.append(row)
        parts = self.plan.flat[row]
        doer = DOERS[parts[0]]
        return doer(self, row, parts)

    def wait_at(self, row):
        """Return the place behind a row at which branches wait, or STAYS if this one has to."""
        if is_ready(self.plan, self.moment, row):
            return leave_row(self.plan, self.moment, row)
        return STAYS

    def close(self, command):
        """Write the last command of the run."""
        self.pen.write(command)
        self.moment.closing = command

    def fall(self, word, row):
        """Give the turn up at a row."""
        raise Falls(word, self.plan.places[row])


def turn_done(program, moment, token, pen):
    """Do a turn and return it; the given moment does not change."""
    turn = Turn(program, moment_behind(program, moment, token), pen)
    branch = turn.first_ready()
    while branch is not None:
        turn.go_on(branch)
        branch = turn.first_ready()
    return turn


def do_start(turn, row, parts):
    """Start an ask or a timer under its label."""
    moment = turn.moment
    label = parts[-1]
    if label in moment.labels:
        turn.fall("busy", row)
    if parts[0] == "ask":
        moment.labels[label] = ("asked", moment.started, parts[1])
        turn.pen.write(("asked", parts[1]))
    else:
        moment.labels[label] = ("timer", moment.started)
        turn.pen.write(("set",))
    moment.started += 1
    return turn.plan.behind[row]


def do_await(turn, row, parts):
    """Wait for the end of the thing under a label."""
    if parts[1] not in turn.moment.labels:
        turn.fall("free", row)
    return turn.wait_at(row)


def do_first(turn, row, parts):
    """Wait for the end of one thing of several."""
    if any([label not in turn.moment.labels for label in parts[1]]):
        turn.fall("free", row)
    return turn.wait_at(row)


def do_take(turn, row, parts):
    """Wait for a word in a box."""
    return turn.wait_at(row)


def do_drop(turn, row, parts):
    """Free a label, whatever is under it."""
    state = turn.moment.labels.get(parts[1])
    if state is not None:
        turn.moment.free(parts[1])
        if state[0] != "done":
            turn.pen.write(("dropped", state[1]))
    return turn.plan.behind[row]


def do_note(turn, row, parts):
    """Set a slot to a word from outside."""
    if turn.notes_done == MOST_NOTES_DONE:
        turn.fall("notes", row)
    turn.moment.slots[parts[1]] = turn.pen.note_word(turn.notes_done, parts[2])
    turn.notes_done += 1
    return turn.plan.behind[row]


def do_put(turn, row, parts):
    """Set a slot."""
    turn.moment.slots[parts[1]] = parts[2]
    return turn.plan.behind[row]


def do_if(turn, row, parts):
    """Choose a list of rows by the word of a slot."""
    return turn.plan.entries[row][0 if turn.moment.slots[parts[1]] == parts[2] else 1]


def do_inner(turn, row, parts):
    """Begin the only list of a row."""
    return turn.plan.entries[row][0]


def do_leave(turn, row, parts):
    """Go on behind the loop, which the plan knows."""
    return turn.plan.behind[row]


def do_both(turn, row, parts):
    """Begin a branch for each list; this one stays until they all are through."""
    for side in turn.plan.sides[row]:
        turn.moment.branches[side] = BEGUN
    return STAYS


def do_gate(turn, row, parts):
    """Do the new rows or the old ones, as the gate is settled."""
    gates = turn.moment.gates
    if parts[1] not in gates:
        gates[parts[1]] = turn.pen.settle(parts[1])
    return turn.plan.entries[row][0 if gates[parts[1]] else 1]


def do_past(turn, row, parts):
    """Do the rows of a past row, however its gate is settled."""
    if parts[1] not in turn.moment.gates:
        turn.pen.pass_gate(parts[1])
        turn.moment.gates[parts[1]] = True
    return turn.plan.entries[row][0]


def do_end(turn, row, parts):
    """End the whole run."""
    command = "ended" if parts[0] == "end" else "anew"
    turn.close((command, turn.moment.slots[parts[1]]))
    return OVER


DOERS = {
    "ask": do_start,
    "timer": do_start,
    "await": do_await,
    "first": do_first,
    "drop": do_drop,
    "take": do_take,
    "note": do_note,
    "put": do_put,
    "if": do_if,
    "loop": do_inner,
    "leave": do_leave,
    "part": do_inner,
    "both": do_both,
    "gate": do_gate,
    "past": do_past,
    "end": do_end,
    "anew": do_end,
}
