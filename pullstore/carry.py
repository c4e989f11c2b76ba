"""Which links carry an entry in a goal, and to which replicas it is carried."""

from pullstore.cluster import check_entry
from pullstore.logs import check_logs, check_prefix
from pullstore.net import check_link


def carries(cluster, goal, source, reader, entry):
    """Whether the link carries the entry in the goal."""
    after = check_logs(cluster, goal)
    check_link(cluster.net, source, reader)
    check_entry(cluster, entry)
    return link_carries(ahead_masks(after), source, reader, entry)


def ahead_masks(logs):
    """For each log a dict with an integer for each entry: the bits of the entries ahead are set."""
    # With these, one comparison of integers tells whether a link carries an entry.
    masks = []
    for log in logs:
        ahead = {}
        passed = 0
        for entry in log:
            ahead[entry] = passed
            passed += 1 << entry
        masks.append(ahead)
    return masks


def link_carries(masks, source, reader, entry):
    """Whether the link carries the entry in the logs that have these masks."""
    if entry not in masks[source] or entry not in masks[reader]:
        return False
    return masks[source][entry] & ~masks[reader][entry] == 0


def roots_of(cluster, start, goal, entry):
    """The roots of the entry."""
    before, after = check_states(cluster, start, goal, entry)
    return find_roots(cluster, before, after, entry)


def check_states(cluster, start, goal, entry):
    """Copies of the start, which must be a prefix of the goal, and of the goal."""
    before = check_logs(cluster, start)
    after = check_logs(cluster, goal)
    check_entry(cluster, entry)
    check_prefix(before, after)
    return before, after


def find_roots(cluster, before, after, entry):
    """The replicas that hold the entry before; if none does, its home if it holds it after."""
    holders = [replica for replica, log in enumerate(before) if entry in log]
    home = cluster.home_of(entry)
    if not holders and entry in after[home]:
        return [home]
    return holders


def carry_distances(cluster, start, goal, entry):
    """The carry distance for each replica, None where the entry is not carried."""
    before, after = check_states(cluster, start, goal, entry)
    roots = find_roots(cluster, before, after, entry)
    return find_distances(cluster.net, roots, ahead_masks(after), entry)


def find_distances(net, roots, masks, entry):
    """The least number of carrying links from a root to each replica, None if there is no way."""
    distances = [None] * net.count
    for root in roots:
        distances[root] = 0
    # In the order in which they are reached, which is the order of their distances.
    waiting = list(roots)
    while waiting:
        source = waiting.pop(0)
        for reader in net.readers(source):
            if distances[reader] is None and link_carries(masks, source, reader, entry):
                distances[reader] = distances[source] + 1
                waiting.append(reader)
    return distances


def carried_to(cluster, start, goal, entry):
    """The replicas to which the entry is carried."""
    distances = carry_distances(cluster, start, goal, entry)
    return [replica for replica, distance in enumerate(distances) if distance is not None]
