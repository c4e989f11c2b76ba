"""The first entries of full reachable logs."""

from pullstore.choices import check_choices, least_unreached, named_entries
from pullstore.errors import ImpossibleChoices
from pullstore.finish import finished_logs
from pullstore.logs import check_logs
from pullstore.paths import check_strong, check_tree, steps_toward


def first_entries(cluster, logs):
    """The first entry of each log, None for an empty log."""
    return [log[0] if log else None for log in check_logs(cluster, logs)]


def firsts_fault(cluster, choices):
    """The least replica that is not reached from the home of its choice, or None."""
    check_strong(cluster.net)
    check_choices(cluster, choices)
    return least_unreached(cluster, choices, {entry: entry for entry in named_entries(choices)})


def logs_with_firsts(cluster, choices):
    """Full reachable logs that begin with the choices."""
    fault = firsts_fault(cluster, choices)
    if fault is not None:
        raise ImpossibleChoices(fault)
    return finished_logs(cluster, [[choice] for choice in choices])


def count_firsts(cluster):
    """The number of possible choices of first entries on a tree."""
    check_tree(cluster.net)
    above = steps_toward(cluster.net, 0)
    # The choices cut the tree into parts, each with an entry that it names and that is at home there.
    # For each replica, the ways to do so below it: those in which the part of the replica has named no
    # entry yet, and those in which it has.
    silent = [1] * cluster.net.count
    named = [len(cluster.entries_at(replica)) for replica in range(cluster.net.count)]
    # From the end, so that each replica is complete before it is added to the one above it.
    for replica in list(above)[:0:-1]:
        upper = above[replica]
        # If its part has named an entry, it may be cut off from the one above; else both are of one part.
        ways = silent[replica] + named[replica]
        named[upper] = named[upper] * ways + silent[upper] * named[replica]
        silent[upper] = silent[upper] * ways
    return named[0]
