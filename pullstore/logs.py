"""The logs of a cluster: who holds what, and which logs are prefixes of which."""

from pullstore.cluster import check_entry
from pullstore.errors import InvalidLogs, NotFull, NotHeld, NotPrefix
from pullstore.net import check_replica


def check_logs(cluster, logs):
    """A copy of the logs."""
    if len(logs) != cluster.net.count:
        raise InvalidLogs(None)
    for replica, log in enumerate(logs):
        if not is_log(cluster, log):
            raise InvalidLogs(replica)
    return [list(log) for log in logs]


def is_log(cluster, log):
    """Whether the list has only entries of the cluster, each at most once."""
    return len(set(log)) == len(log) and all(entry in range(cluster.size) for entry in log)


def empty_logs(cluster):
    """The logs without any entry."""
    return [[] for _ in range(cluster.net.count)]


def holders_of(cluster, logs, entry):
    """The replicas that hold the entry."""
    held = check_logs(cluster, logs)
    check_entry(cluster, entry)
    return [replica for replica, log in enumerate(held) if entry in log]


def ahead_of(cluster, logs, replica, entry):
    """The entries ahead of the entry in the log of the replica, in the order of the log."""
    held = check_logs(cluster, logs)
    check_replica(cluster.net, replica)
    check_entry(cluster, entry)
    if entry not in held[replica]:
        raise NotHeld(replica, entry)
    return entries_before(held[replica], entry)


def entries_before(log, entry):
    """The entries of the log before this one, which must be in the log."""
    return log[:log.index(entry)]


def unwritten(cluster, logs):
    """The entries that no replica holds."""
    held = check_logs(cluster, logs)
    return [entry for entry in range(cluster.size) if is_unwritten(held, entry)]


def is_unwritten(logs, entry):
    """Whether no replica holds the entry."""
    return not any(entry in log for log in logs)


def is_full(cluster, logs):
    """Whether every replica holds every entry."""
    return all(len(log) == cluster.size for log in check_logs(cluster, logs))


def check_full(cluster, logs):
    """Raises NotFull if some replica lacks an entry."""
    for replica, log in enumerate(logs):
        if len(log) < cluster.size:
            raise NotFull(replica)


def is_prefix(cluster, start, goal):
    """Whether each log of the start is equal to the first items of the log of the goal."""
    before = check_logs(cluster, start)
    after = check_logs(cluster, goal)
    return prefix_break(before, after) is None


def begins_with(log, items):
    """Whether the items are the first items of the log."""
    return log[:len(items)] == items


def prefix_break(start, goal):
    """The least replica whose log in the start is not a prefix of its log in the goal, or None."""
    for replica, log in enumerate(start):
        if not begins_with(goal[replica], log):
            return replica
    return None


def check_prefix(start, goal):
    """Raises NotPrefix if the start is not a prefix of the goal."""
    replica = prefix_break(start, goal)
    if replica is not None:
        raise NotPrefix(replica)


def missing_pairs(cluster, start, goal):
    """The pairs (replica, entry) of the entries that the goal has beyond the start."""
    before = check_logs(cluster, start)
    after = check_logs(cluster, goal)
    check_prefix(before, after)
    pairs = []
    for replica, log in enumerate(after):
        for entry in log[len(before[replica]):]:
            pairs.append((replica, entry))
    return pairs


def count_missing(start, goal):
    """The number of missing pairs; the start is a prefix of the goal."""
    return sum([len(log) for log in goal]) - sum([len(log) for log in start])


def restrict(cluster, logs, *kept):
    """The logs without all entries that are not kept."""
    held = check_logs(cluster, logs)
    for entry in kept:
        check_entry(cluster, entry)
    return [only_kept(log, kept) for log in held]


def only_kept(log, kept):
    """The entries of the log that are kept, in the order of the log."""
    return [entry for entry in log if entry in kept]
