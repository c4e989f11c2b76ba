"""Pulling until no pull is allowed."""

from pullstore.logs import check_logs
from pullstore.run import FIRST, on_offer, replay


def is_settled(cluster, logs):
    """Whether no pull is allowed."""
    held = check_logs(cluster, logs)
    return least_open_link(cluster.net.links, masks_of(held)) is None


def settle(cluster, logs):
    """The pulls that settle the logs, each at the least link at which an entry is on offer."""
    held = check_logs(cluster, logs)
    links = cluster.net.links
    masks = masks_of(held)
    trace = []
    link = least_open_link(links, masks)
    while link is not None:
        source, reader = link
        entry = on_offer(held[source], held[reader], FIRST)[0]
        trace.append(("pull", source, reader, entry))
        held[reader].append(entry)
        masks[reader] += 1 << entry
        link = least_open_link(links, masks)
    return trace


def masks_of(logs):
    """For each log an integer in which the bits of its entries are set."""
    # With these, looking for a link with an offer does not go through the logs.
    return [sum([1 << entry for entry in log]) for log in logs]


def least_open_link(links, masks):
    """The least of the links at which an entry is on offer, or None."""
    for source, reader in links:
        if masks[source] & ~masks[reader] != 0:
            return (source, reader)
    return None


def settled_logs(cluster, logs):
    """The logs after the pulls that settle them."""
    return replay(cluster, logs, settle(cluster, logs))


def pulls_left(cluster, logs):
    """The number of pulls of every sequence of pulls that settles the logs."""
    return len(settle(cluster, logs))
