"""Graphs: ways between numbered nodes.

A graph is a list that has for each node the ascending list of the different nodes behind it.
"""


def nodes_before(behind):
    """Return the graph with all its ways turned round."""
    ways = sorted([(other, node) for node, nodes in enumerate(behind) for other in nodes])
    before = []
    at = 0
    for goal in range(len(behind)):
        start = at
        while at < len(ways) and ways[at][0] == goal:
            at += 1
        before.append([node for other, node in ways[start:at]])
    return before


def steps_to(before, goals, most):
    """Return for each node the least number of steps to one of the goals, or None if that takes more than most.

    The graph is given with its ways turned round.
    """
    steps = [None for nodes in before]
    for goal in goals:
        steps[goal] = 0
    reached = list(goals)
    at = 0
    while at < len(reached) and steps[reached[at]] < most:
        node = reached[at]
        for other in before[node]:
            if steps[other] is None:
                steps[other] = steps[node] + 1
                reached.append(other)
        at += 1
    return steps


def heights(behind, ends):
    """Return for each node the greatest number of steps from it to an end, or None if it may not come to one.

    Ends have no nodes behind them. A node that may go round for ever, or come to
    a node with nothing behind it that is no end, has none.
    """
    before = nodes_before(behind)
    left = [len(nodes) for nodes in behind]
    tall = [None for nodes in behind]
    for end in ends:
        tall[end] = 0
    measured = list(ends)
    at = 0
    while at < len(measured):
        node = measured[at]
        for other in before[node]:
            left[other] -= 1
            if left[other] == 0:
                tall[other] = 1 + max([tall[one] for one in behind[other]])
                measured.append(other)
        at += 1
    return tall
