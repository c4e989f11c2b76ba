"""Unknown homes: which replicas can be the homes of the entries of given logs."""

from pullstore.carry import ahead_masks, find_distances
from pullstore.cluster import Cluster
from pullstore.errors import InvalidHomes
from pullstore.logs import check_logs


def possible_homes(net, size, logs):
    """For each entry the list of its possible homes."""
    masks = checked_masks(net, size, logs)
    return [find_homes(net, find_carried(net, masks, entry)) for entry in range(size)]


def checked_masks(net, size, logs):
    """The masks of the logs, which must be those of a cluster with this net and so many entries."""
    if size not in range(Cluster.MOST + 1):
        raise InvalidHomes(None)
    # The checks of logs do not look at homes, so that any will do.
    return ahead_masks(check_logs(Cluster(net, [0] * size), logs))


def find_carried(net, masks, entry):
    """For each holder of the entry the list of the holders to which links carry it from there."""
    carried = {}
    for holder in range(net.count):
        if entry in masks[holder]:
            distances = find_distances(net, [holder], masks, entry)
            carried[holder] = [replica for replica in range(net.count) if distances[replica] is not None]
    return carried


def find_homes(net, carried):
    """The possible homes of the entry that is carried like this."""
    if not carried:
        return list(range(net.count))
    return [holder for holder in carried if len(carried[holder]) == len(carried)]


def no_home(net, size, logs):
    """The least entry without a possible home and two groups that cannot be entered, or None."""
    masks = checked_masks(net, size, logs)
    for entry in range(size):
        carried = find_carried(net, masks, entry)
        if not find_homes(net, carried):
            one, other = find_groups(carried)[:2]
            return (entry, one, other)
    return None


def find_groups(carried):
    """The groups of holders that cannot be entered, in ascending order of their least replicas."""
    groups = []
    for holder in carried:
        # Whoever carries the entry to a member of a group is a member, so these are its group if it is in one.
        givers = [giver for giver in carried if holder in carried[giver]]
        if givers[0] == holder and all(giver in carried[holder] for giver in givers):
            groups.append(givers)
    return groups
