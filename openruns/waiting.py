"""Rows at which branches stay: when a branch can go on from there, and what it does then."""


def is_ready(plan, moment, row):
    """Tell whether a branch that stays at a row can go on."""
    parts = plan.flat[row]
    if parts[0] == "await":
        return parts[1] in moment.finished
    if parts[0] == "first":
        return any([label in moment.finished for label in parts[1]])
    if parts[0] == "take":
        return len(moment.boxes[parts[1]]) > 0
    return not any([side in moment.branches for side in plan.sides[row]])


def leave_row(plan, moment, row):
    """Do what a branch does that goes on from the row at which it stayed; return the place behind."""
    parts = plan.flat[row]
    if parts[0] == "await":
        moment.slots[parts[2]] = moment.labels[parts[1]][1]
        moment.free(parts[1])
    elif parts[0] == "first":
        moment.slots[parts[2]] = [label for label in moment.finished if label in parts[1]][0]
    elif parts[0] == "take":
        words = moment.boxes[parts[1]]
        moment.slots[parts[2]] = words[0]
        moment.boxes[parts[1]] = words[1:]
    return plan.behind[row]
