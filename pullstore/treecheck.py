"""Recognizing reachable logs, link by link on trees and pair by pair on any net."""

from pullstore.audit import check_reachable, reachable
from pullstore.cluster import entry_pairs
from pullstore.evidence import first_blocker
from pullstore.logs import check_full, check_logs, empty_logs, restrict
from pullstore.net import check_link
from pullstore.paths import check_tree, tree_side


def link_fault(cluster, logs, source, reader):
    """The fault of the link as a tuple (entry, blocker), or None."""
    check_tree(cluster.net)
    held = check_logs(cluster, logs)
    check_link(cluster.net, source, reader)
    return find_link_fault(cluster, held, source, reader)


def find_link_fault(cluster, logs, source, reader):
    """The fault of a link of a tree, or None, for logs that are checked already."""
    side = tree_side(cluster.net, source, reader)
    for entry in logs[reader]:
        if cluster.home_of(entry) in side:
            if entry not in logs[source]:
                return (entry, None)
            blocker = first_blocker(logs[source], logs[reader], entry)
            if blocker is not None:
                return (entry, blocker)
    return None


def tree_fault(cluster, logs):
    """The least link that has a fault, with its fault: (source, reader, entry, blocker), or None."""
    check_tree(cluster.net)
    held = check_logs(cluster, logs)
    for source, reader in cluster.net.links:
        fault = find_link_fault(cluster, held, source, reader)
        if fault is not None:
            return (source, reader, *fault)
    return None


def pair_fault(cluster, logs):
    """The least entry, else the least pair, such that the logs restricted to it are not reachable, or None."""
    held = check_logs(cluster, logs)
    empty = empty_logs(cluster)
    singles = [(entry,) for entry in range(cluster.size)]
    for kept in singles + entry_pairs(cluster):
        if not reachable(cluster, empty, restrict(cluster, held, *kept)):
            return kept
    return None


def check_full_on_tree(cluster, logs):
    """A copy of the logs, which must be full and reachable logs on a tree."""
    check_tree(cluster.net)
    held = check_logs(cluster, logs)
    check_full(cluster, held)
    check_reachable(cluster, empty_logs(cluster), held)
    return held
