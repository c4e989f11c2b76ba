"""Depths: the place of each entry in the log of its home, and which ones full logs can have."""

from pullstore.cluster import entry_pairs
from pullstore.errors import InvalidDepths, NotHeld
from pullstore.logs import check_logs, empty_logs
from pullstore.paths import check_strong
from pullstore.run import FIRST, entry_of, on_offer, place_of
from pullstore.settle import least_open_link, masks_of


def depths_of(cluster, logs):
    """The list of the depths of all entries."""
    held = check_logs(cluster, logs)
    for entry, home in enumerate(cluster.homes):
        if entry not in held[home]:
            raise NotHeld(home, entry)
    return [held[home].index(entry) for entry, home in enumerate(cluster.homes)]


def depths_fault(cluster, depths):
    """The fault of the depths, or None."""
    if len(depths) != cluster.size:
        return ("length", len(depths))
    for entry, depth in enumerate(depths):
        if depth < 0:
            return ("negative", entry)
    homes = cluster.homes
    for first, second in entry_pairs(cluster):
        if homes[first] == homes[second] and depths[first] == depths[second]:
            return ("same", first, second)
    few = least_few(depths)
    if few is not None:
        return ("few", few)
    return None


def least_few(depths):
    """The least number such that fewer than so many of the depths are below it, or None."""
    for index, depth in enumerate(sorted(depths)):
        if depth > index:
            return index + 1
    return None


def check_depths(cluster, depths):
    """Raises InvalidDepths if the depths have a fault."""
    fault = depths_fault(cluster, depths)
    if fault is not None:
        raise InvalidDepths(fault)


def count_ring(cluster):
    """The number of lists of depths without fault, from the homes alone."""
    most = cluster.size + 1
    ways = 1
    for replica in range(cluster.net.count):
        for earlier in range(len(cluster.entries_at(replica))):
            ways = ways * (most - earlier)
    return ways // most


def each_depths(cluster):
    """Yields all lists of depths without fault in ascending order."""
    homes = cluster.homes
    depths = least_completion(homes, [])
    while depths is not None:
        # A copy, so that the caller may change what was yielded.
        yield list(depths)
        depths = next_depths(homes, depths)


def least_completion(homes, begun):
    """The least list that begins like this and in which no two entries of one home have the same depth."""
    depths = list(begun)
    for entry in range(len(begun), len(homes)):
        depths.append(least_free(homes, depths, entry, 0))
    return depths


def least_free(homes, depths, entry, low):
    """The least depth from `low` on that no earlier entry with the same home has."""
    taken = [depths[other] for other in range(entry) if homes[other] == homes[entry]]
    depth = low
    while depth in taken:
        depth += 1
    return depth


def next_depths(homes, depths):
    """The next list without fault behind these depths, or None."""
    for entry in reversed(range(len(homes))):
        greater = least_free(homes, depths, entry, depths[entry] + 1)
        # No other completion has more low depths, and a still greater depth here has only fewer of them.
        later = least_completion(homes, depths[:entry] + [greater])
        if least_few(later) is None:
            return later
    return None


def depth_run(cluster, depths):
    """A run from the empty logs to full logs with these depths."""
    check_strong(cluster.net)
    check_depths(cluster, depths)
    held = empty_logs(cluster)
    masks = masks_of(held)
    trace = []
    action = next_step(cluster, depths, held, masks)
    while action is not None:
        held[place_of(cluster, action)].append(entry_of(action))
        masks[place_of(cluster, action)] += 1 << entry_of(action)
        trace.append(action)
        action = next_step(cluster, depths, held, masks)
    return trace


def next_step(cluster, depths, logs, masks):
    """The write of an entry whose depth its home has reached; else the pull at the least open link, or None."""
    # A write that is due comes first, so that no pull takes its place. If none is due and no pull is allowed,
    # then all replicas hold the same entries, and depths without fault leave no entry that is deeper.
    for entry, home in enumerate(cluster.homes):
        if len(logs[home]) == depths[entry]:
            return ("write", entry)
    link = least_open_link(cluster.net.links, masks)
    if link is None:
        return None
    source, reader = link
    return ("pull", source, reader, on_offer(logs[source], logs[reader], FIRST)[0])
