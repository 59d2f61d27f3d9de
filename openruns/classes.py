"""Classes: which nodes have the same turns behind them, for ever, and tables of these classes.

Here, a node is the number of a list of ways, each the tuple of a turn by age and
the node behind it, ascending by the turns; node 0 is the empty beginning. The
nodes are numbered in the order of the least histories that come to them.
"""

from openruns.errors import LimitExceeded
from openruns.graphs import nodes_before

MOST_PAIRS = 10000


def classes_of(ways):
    """Return for each node the number of its class; the classes are numbered in the order of their first nodes."""
    behind = [[node for turn, node in roads] for roads in ways]
    turns = [tuple([turn for turn, node in roads]) for roads in ways]
    # The beginning is in no class with another node: no other one has begin turns.
    return ranks_of(split_classes(behind, ranks_of(turns)))


def ranks_of(values):
    """Return for each of some values the place of the first equal one among the different ones."""
    ranks = {}
    for value in values:
        if value not in ranks:
            ranks[value] = len(ranks)
    return [ranks[value] for value in values]


def split_classes(behind, begun):
    """Split classes until the nodes of each have nodes of the same classes behind them, one by one.

    The numbers of the classes that are returned have no order.
    """
    before = nodes_before([sorted(set(nodes)) for nodes in behind])
    classes = list(begun)
    many = len(set(begun))
    sizes = dict(counted(begun))
    left = list(range(len(behind)))
    while len(left) > 0:
        # All nodes of a class that are not left had the same classes behind them, and still have.
        keys = [(classes[node], tuple([classes[other] for other in behind[node]])) for node in left]
        counts = counted(keys)
        stays = keys_that_stay(counts, sizes)
        names = {}
        for key in counts:
            if key not in stays:
                names[key] = many
                sizes[many] = counts[key]
                sizes[key[0]] = sizes[key[0]] - counts[key]
                many += 1
        moved = [(node, names[key]) for node, key in zip(left, keys) if key in names]
        for node, name in moved:
            classes[node] = name
        left = sorted({other for node, name in moved for other in before[node]})
    return classes


def counted(values):
    """Return how often each of some values stands there."""
    counts = {}
    for value in values:
        counts[value] = counts.get(value, 0) + 1
    return counts


def keys_that_stay(counts, sizes):
    """Return, of the parts of classes, those that keep the number of their class.

    The nodes that are in no part stay, if there are any; otherwise a largest part does.
    """
    totals = {}
    largest = {}
    for key in counts:
        number = key[0]
        totals[number] = totals.get(number, 0) + counts[key]
        if number not in largest or counts[key] > counts[largest[number]]:
            largest[number] = key
    return {largest[number]: True for number in largest if totals[number] == sizes[number]}


def table_of(ways, classes):
    """Return the table of the classes of nodes: for each class the turns from it, with the classes behind them."""
    rows = []
    for node, number in enumerate(classes):
        if number == len(rows):
            rows.append(tuple([(turn, classes[other]) for turn, other in ways[node]]))
    return tuple(rows)


def ways_behind(table):
    """Return for each class of a table the dict of the classes behind its turns."""
    return [{turn: number for turn, number in row} for row in table]


def paired_ways(one, other, in_both):
    """Return the pairs of classes of histories in two sets, and the ways between them.

    Each set is given by ways_behind. The histories are those that are in both, or
    those in at least one; then None stands for no class. The first pair is that
    of the empty beginning.
    """
    pairs = [(0, 0)]
    numbers = {(0, 0): 0}
    ways = []
    while len(ways) < len(pairs):
        roads = []
        following = pairs_behind(one, other, pairs[len(ways)], in_both)
        for turn, pair in following:
            if pair not in numbers:
                if len(pairs) > MOST_PAIRS:
                    raise LimitExceeded(MOST_PAIRS)
                numbers[pair] = len(pairs)
                pairs.append(pair)
            roads.append((turn, numbers[pair]))
        ways.append(roads)
    return pairs, ways


def pairs_behind(one, other, pair, in_both):
    """Return, ascending, the turns behind a pair of classes, each with the pair behind it."""
    first = {} if pair[0] is None else one[pair[0]]
    second = {} if pair[1] is None else other[pair[1]]
    if in_both:
        turns = [turn for turn in first if turn in second]
    else:
        turns = list(first) + [turn for turn in second if turn not in first]
    return [(turn, (first.get(turn), second.get(turn))) for turn in sorted(turns)]


def class_behind(ways, turns):
    """Return the class that turns by age come to, or None if there is none."""
    number = 0
    for turn in turns:
        if turn not in ways[number]:
            return None
        number = ways[number][turn]
    return number
