"""Full reachable logs on rings, where the depths alone determine them."""

from pullstore.depths import check_depths, depth_run
from pullstore.errors import NotFull
from pullstore.evidence import first_blocker
from pullstore.logs import check_full, check_logs, empty_logs
from pullstore.paths import check_ring
from pullstore.run import replay


def ring_logs(cluster, depths):
    """The full reachable logs with these depths."""
    check_ring(cluster.net)
    # A ring is strong, and all runs to full logs with these depths lead to the same ones.
    return replay(cluster, empty_logs(cluster), depth_run(cluster, depths))


def ring_fault(cluster, logs):
    """The least replica whose log does not follow the log from which it pulls, or None."""
    check_ring(cluster.net)
    held = check_logs(cluster, logs)
    check_full(cluster, held)
    for replica in range(cluster.net.count):
        if not follows(held[replica], held[ring_source(cluster.net, replica)], cluster.entries_at(replica)):
            return replica
    return None


def ring_source(net, replica):
    """The replica of a ring from which this one pulls; raises UnknownReplica if there is no such one."""
    return net.sources(replica)[0]


def follows(log, source_log, own):
    """Whether the full log follows that of the source; its replica is the home of its own entries."""
    if without_own(log, own) != without_own(source_log, own):
        return False
    return all(first_blocker(log, source_log, entry) is None for entry in own)


def without_own(log, own):
    """The entries of the log without the own ones, in the order of the log."""
    return [entry for entry in log if entry not in own]


def restore_log(cluster, logs, depths, replica):
    """The log of the replica, made from the full log from which it pulls and from the depths."""
    check_ring(cluster.net)
    held = check_logs(cluster, logs)
    check_depths(cluster, depths)
    source = ring_source(cluster.net, replica)
    if len(held[source]) < cluster.size:
        raise NotFull(source)
    own = cluster.entries_at(replica)
    log = without_own(held[source], own)
    for depth, entry in sorted([(depths[entry], entry) for entry in own]):
        log.insert(depth, entry)
    return log
