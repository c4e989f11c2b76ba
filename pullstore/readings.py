"""Readings: which entry a replica reads for a key, and where full reachable logs on a tree differ in it."""

from pullstore.errors import InvalidData
from pullstore.logs import check_logs
from pullstore.net import check_replica
from pullstore.paths import check_tree
from pullstore.treecheck import check_full_on_tree


def read_entry(cluster, logs, key_of, replica, key):
    """The last entry in the log of the replica that has the key, or None."""
    held = check_logs(cluster, logs)
    check_length(cluster, key_of)
    check_replica(cluster.net, replica)
    return find_reading(held[replica], key_of, key)


def check_length(cluster, worths):
    """Raises InvalidData if the list does not have one item for each entry."""
    if len(worths) != cluster.size:
        raise InvalidData(None)


def find_reading(log, key_of, key):
    """The last entry of the log that has the key, or None."""
    found = None
    for entry in log:
        if key_of[entry] == key:
            found = entry
    return found


def known_keys(key_of):
    """Each key of some entry once, in ascending order."""
    return sorted(set(key_of))


def split_key(cluster, logs, key_of, key):
    """The linked replicas that part the readings of the key, and the entries that they read, or None."""
    held = check_readable(cluster, logs, key_of)
    return find_split(cluster.net, held, key_of, key)


def check_readable(cluster, logs, key_of):
    """A copy of the logs, which must be full and reachable logs on a tree, with a key for each entry."""
    check_tree(cluster.net)
    check_logs(cluster, logs)
    # The keys come before what the logs must be beyond being logs.
    check_length(cluster, key_of)
    return check_full_on_tree(cluster, logs)


def find_split(net, logs, key_of, key):
    """The answer of split_key, for logs and keys that are checked already."""
    readings = [find_reading(log, key_of, key) for log in logs]
    # The links ascend, so that the one from the lower replica is found.
    for x, y in net.links:
        if readings[x] != readings[y]:
            return (x, y, readings[x], readings[y])
    return None


def split_keys(cluster, logs, key_of):
    """For each key for which the replicas differ, the key and what split_key tells of it."""
    held = check_readable(cluster, logs, key_of)
    found = []
    for key in known_keys(key_of):
        split = find_split(cluster.net, held, key_of, key)
        if split is not None:
            found.append((key, *split))
    return found
