"""Moments: what a run is between two turns, and its standing."""

from openruns.forms import INPUT_SLOT
from openruns.words import is_same

NO_WORD = "none"
RANG = "rang"

# In place of the row of a branch that has just begun and has done no row yet.
BEGUN = -1


class Moment:
    """What a run is between two turns.

    A label that is not free is in labels, with ("asked", n, name) or
    ("timer", n) for the open thing n, or with ("done", word); finished lists
    the done labels in the order in which they became done. A branch that is not
    through is in branches, with BEGUN or the number of the row at which it
    stays. closing is None, or the last command of a run that is over.
    """

    def __init__(self):
        self.slots = {}
        self.labels = {}
        self.finished = []
        self.boxes = {}
        self.gates = {}
        self.branches = {}
        self.started = 0
        self.closing = None

    def twin(self):
        """Return a moment that is equal to this one and independent of it."""
        twin = Moment()
        twin.slots = dict(self.slots)
        twin.labels = dict(self.labels)
        twin.finished = list(self.finished)
        twin.boxes = dict(self.boxes)
        twin.gates = dict(self.gates)
        twin.branches = dict(self.branches)
        twin.started = self.started
        twin.closing = self.closing
        return twin

    def free(self, label):
        """Make a label free that is not."""
        del self.labels[label]
        if label in self.finished:
            self.finished.remove(label)


def first_moment(program, word):
    """Return the moment of a run that begins with an input, before its first row."""
    moment = Moment()
    moment.slots = {slot: NO_WORD for slot in program.name_table["slots"]}
    moment.slots[INPUT_SLOT] = word
    moment.boxes = {name: () for name in program.signal_table}
    moment.branches = {0: BEGUN}
    return moment


def moment_behind(program, moment, token):
    """Return the moment when an outer token has taken effect, before the rows of its turn."""
    if token[0] == "begin":
        return first_moment(program, token[1])
    changed = moment.twin()
    if token[0] == "signal":
        changed.boxes[token[1]] = changed.boxes[token[1]] + (token[2],)
        return changed
    label = label_of(moment, token[1])
    changed.labels[label] = ("done", token[2] if token[0] == "answer" else RANG)
    changed.finished.append(label)
    return changed


def label_of(moment, number):
    """Return the label of the open thing with this number."""
    return [label for label, state in moment.labels.items() if state[0] != "done" and state[1] == number][0]


def outer_tokens(program, moment):
    """Return the outer tokens that may come, ascending."""
    if moment.closing is not None:
        return []
    tokens = []
    for state in moment.labels.values():
        if state[0] == "asked":
            tokens.extend([("answer", state[1], word) for word in program.ask_table[state[2]]])
        elif state[0] == "timer":
            tokens.append(("rang", state[1]))
    for name, words in moment.boxes.items():
        room, choices = program.signal_table[name]
        if len(words) < room:
            tokens.extend([("signal", name, word) for word in choices])
    return sorted(tokens)


def may_come(program, moment, token):
    """Tell whether any value is an outer token that may come."""
    return any([is_same(token, other) for other in outer_tokens(program, moment)])


def moment_by_age(moment):
    """Return a moment with its open things numbered 0, 1, .. in the order in which they were started."""
    twin = moment.twin()
    running = running_things(moment)
    twin.labels = {label: state_by_age(state, running) for label, state in moment.labels.items()}
    twin.started = len(running)
    return twin


def state_by_age(state, running):
    """Return what a label is under, with the thing numbered by its place among the open ones."""
    if state[0] == "done":
        return state
    return (state[0], running.index(state[1])) + state[2:]


def running_things(moment):
    """Return the numbers of the open things, ascending."""
    return sorted([state[1] for state in moment.labels.values() if state[0] != "done"])


def standing_of(program, moment):
    """Return the standing of a run."""
    if moment.closing is not None:
        command, word = moment.closing
        return ("over" if command == "ended" else "anew", word)
    slots = tuple(sorted(moment.slots.items()))
    boxes = tuple(sorted(moment.boxes.items()))
    gates = tuple(sorted(moment.gates.items()))
    return ("at", waits_of(program.plan, moment), slots, labels_of(moment), boxes, gates)


def waits_of(plan, moment):
    """Return the paths of the rows at which branches wait; a both row is not waited at."""
    waits = [plan.places[row] for row in moment.branches.values() if plan.flat[row][0] != "both"]
    return tuple(sorted(waits))


def labels_of(moment):
    """Return what a standing tells of the labels, with things and done labels by their ranks."""
    running = running_things(moment)
    told = []
    for label, state in moment.labels.items():
        if state[0] == "done":
            told.append((label, "done", state[1], moment.finished.index(label)))
        else:
            told.append((label,) + state_by_age(state, running))
    return tuple(sorted(told))
