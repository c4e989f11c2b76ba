"""Logs on trees under the rule ANY: whether they come from the empty logs, and how."""

from pullstore.errors import FreeFault
from pullstore.logs import check_logs, empty_logs
from pullstore.paths import check_tree, link_sides
from pullstore.run import entry_of, place_of


def free_fault(cluster, logs):
    """The fault of the logs under the rule ANY, or None."""
    check_tree(cluster.net)
    held = check_logs(cluster, logs)
    return find_free_fault(cluster, held)


def find_free_fault(cluster, logs):
    """The answer of free_fault, for logs that are checked already."""
    sides = link_sides(cluster.net)
    for source, reader in cluster.net.links:
        for entry in logs[reader]:
            if cluster.home_of(entry) in sides[(source, reader)] and entry not in logs[source]:
                return ("absent", source, reader, entry)
    for x, y in cluster.net.links:
        if x < y:
            crossing = find_crossing(cluster, logs[x], logs[y], sides[(x, y)])
            if crossing is not None:
                return ("crossed", x, y, *crossing)
    return None


def find_crossing(cluster, log_x, log_y, side):
    """The least entries (first, second) that are crossed in the logs of linked replicas, or None.

    The side is that of the replica with the first of the two logs.
    """
    shared = sorted([entry for entry in log_x if entry in log_y])
    for first in shared:
        for second in shared:
            if cluster.home_of(first) in side and cluster.home_of(second) not in side:
                if is_ahead(log_x, second, first) and is_ahead(log_y, first, second):
                    return (first, second)
    return None


def is_ahead(log, one, other):
    """Whether the one entry is ahead of the other in the log, which has both."""
    return log.index(one) < log.index(other)


def free_plan(cluster, goal):
    """A trace under the rule ANY from the empty logs to the goal."""
    check_tree(cluster.net)
    after = check_logs(cluster, goal)
    fault = find_free_fault(cluster, after)
    if fault is not None:
        raise FreeFault(fault)
    held = empty_logs(cluster)
    trace = []
    while held != after:
        action = next_free(cluster, held, after)
        held[place_of(cluster, action)].append(entry_of(action))
        trace.append(action)
    return trace


def next_free(cluster, now, goal):
    """The first action that is allowed under the rule ANY and leaves a prefix of the goal, or None."""
    # Of all actions at one log, only those with this entry leave a prefix.
    wanted = [log[len(now[replica])] if len(now[replica]) < len(log) else None for replica, log in enumerate(goal)]
    for entry, home in enumerate(cluster.homes):
        # Nobody can have it before its home has.
        if wanted[home] == entry:
            return ("write", entry)
    for source, reader in cluster.net.links:
        if wanted[reader] in now[source]:
            return ("pull", source, reader, wanted[reader])
    return None
