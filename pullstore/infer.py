"""What one log on a tree tells about the others."""

from pullstore.errors import InvalidLogs
from pullstore.logs import is_log
from pullstore.net import check_replica
from pullstore.paths import check_tree, tree_path


def least_logs(cluster, replica, log):
    """The logs that have what is held everywhere in all reachable logs in which the replica has this log."""
    paths = entry_paths(cluster, replica, log)
    return [[entry for entry in log if place in paths[entry]] for place in range(cluster.net.count)]


def fewest_actions(cluster, replica, log):
    """The least number of actions of a run to logs in which the replica has this log."""
    paths = entry_paths(cluster, replica, log)
    # Each replica on the path from an entry's home holds the entry, and these are all.
    return sum([len(paths[entry]) for entry in log])


def entry_paths(cluster, replica, log):
    """For each entry of the log the path from its home to the replica."""
    check_tree(cluster.net)
    check_replica(cluster.net, replica)
    if not is_log(cluster, log):
        raise InvalidLogs(replica)
    return {entry: tree_path(cluster.net, cluster.home_of(entry), replica) for entry in log}
