"""How two entries stand to each other in full reachable logs on a tree, and the logs that follow from it."""

from pullstore.cluster import entry_pairs
from pullstore.errors import CyclicTable, InvalidTable
from pullstore.paths import check_tree, link_sides, tree_path
from pullstore.treecheck import check_full_on_tree

AHEAD = "ahead"
BEHIND = "behind"


def pair_codes(cluster, first, second):
    """The codes that the two entries can have."""
    check_tree(cluster.net)
    return [AHEAD, BEHIND] + home_links(cluster, first, second)


def home_links(cluster, first, second):
    """The links of the path from the home of the first entry to the home of the second, on a tree."""
    path = home_path(cluster, first, second)
    return list(zip(path, path[1:]))


def home_path(cluster, first, second):
    """The path from the home of the first entry to the home of the second, on a tree."""
    return tree_path(cluster.net, cluster.home_of(first), cluster.home_of(second))


def order_table(cluster, logs):
    """The code of each pair of entries in full reachable logs."""
    held = check_full_on_tree(cluster, logs)
    places = [{entry: index for index, entry in enumerate(log)} for log in held]
    table = {}
    for first, second in entry_pairs(cluster):
        table[(first, second)] = find_code(places, home_path(cluster, first, second), first, second)
    return table


def find_code(places, path, first, second):
    """The code of the pair, from the index of each entry in each log and the path between the homes."""
    near = [replica for replica in path if places[replica][first] < places[replica][second]]
    if len(near) == len(path):
        return AHEAD
    if not near:
        return BEHIND
    # The logs are reachable: on the path, those with the first entry ahead come before the others.
    return (path[len(near) - 1], path[len(near)])


def logs_of_table(cluster, table):
    """The full logs that the order table determines."""
    check_tree(cluster.net)
    for first, second in entry_pairs(cluster):
        if table.get((first, second)) not in pair_codes(cluster, first, second):
            raise InvalidTable(first, second)
    sides = link_sides(cluster.net)
    logs = []
    for replica in range(cluster.net.count):
        order = order_at(cluster, table, sides, replica)
        log = log_of_order(cluster.size, order)
        if log is None:
            raise CyclicTable(replica, least_circle(cluster.size, order))
        logs.append(log)
    return logs


def order_at(cluster, table, sides, replica):
    """For each pair of entries whether the first one is ahead in the log of the replica."""
    return {pair: is_first_ahead(table[pair], sides, replica) for pair in entry_pairs(cluster)}


def is_first_ahead(code, sides, replica):
    """Whether the code puts the first entry ahead in the log of the replica."""
    if code in (AHEAD, BEHIND):
        return code == AHEAD
    return replica in sides[code]


def log_of_order(size, order):
    """The log in which each pair of entries stands as in the order, or None if there is none."""
    passed = [0] * size
    for first, second in order:
        if order[(first, second)]:
            passed[second] += 1
        else:
            passed[first] += 1
    # Without a circle, the entries have different numbers of others ahead of them.
    if sorted(passed) != list(range(size)):
        return None
    return [passed.index(number) for number in range(size)]


def least_circle(size, order):
    """The least three entries of which each is ahead of one of the others and behind the other, or None."""
    for first in range(size):
        for second in range(first + 1, size):
            for third in range(second + 1, size):
                if order[(first, second)] == order[(second, third)] != order[(first, third)]:
                    return (first, second, third)
    return None
