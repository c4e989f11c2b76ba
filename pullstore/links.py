"""Links that a goal needs or would need, and entries without which a goal would be reachable."""

from pullstore.audit import check_reachable, find_obstacle
from pullstore.carry import ahead_masks, find_roots, link_carries
from pullstore.logs import check_logs, empty_logs, prefix_break
from pullstore.net import Net


def needed_links(cluster, start, goal):
    """The links without which the goal is not reachable."""
    routes = reachable_routes(cluster, start, goal)
    return [link for link in cluster.net.links if not all_carried(routes_without(routes, link))]


def lean_net(cluster, start, goal):
    """The net that is left when links are removed in ascending order, as long as the goal stays reachable."""
    routes = reachable_routes(cluster, start, goal)
    kept = []
    for link in cluster.net.links:
        fewer = routes_without(routes, link)
        if all_carried(fewer):
            routes = fewer
        else:
            kept.append(link)
    return Net(cluster.net.count, kept)


def reachable_routes(cluster, start, goal):
    """The routes of all entries; the goal must be reachable."""
    before = check_logs(cluster, start)
    after = check_logs(cluster, goal)
    check_reachable(cluster, before, after)
    return find_routes(cluster, before, after, ahead_masks(after))


def find_routes(cluster, before, after, masks):
    """For each entry its roots, its holders in the logs after, and for each source the readers of carrying links.

    Each of these is an integer in which the bits of the replicas are set: many nets are tried, and with
    integers a try is quick.
    """
    routes = []
    for entry in range(cluster.size):
        roots = find_roots(cluster, before, after, entry)
        holders = [replica for replica, log in enumerate(after) if entry in log]
        onward = [0] * cluster.net.count
        for source, reader in cluster.net.links:
            if link_carries(masks, source, reader, entry):
                onward[source] += 1 << reader
        routes.append((bits_of(roots), bits_of(holders), onward))
    return routes


def bits_of(replicas):
    """An integer in which the bits of these replicas are set."""
    return sum([1 << replica for replica in replicas])


def routes_without(routes, link):
    """The routes without this link."""
    source, reader = link
    return [(roots, holders, changed(onward, source, onward[source] & ~(1 << reader)))
            for roots, holders, onward in routes]


def changed(onward, source, bits):
    """A copy in which the source carries the entry to the replicas with these bits."""
    return onward[:source] + [bits] + onward[source + 1:]


def all_carried(routes):
    """Whether each entry is carried to all its holders."""
    return all(is_carried(roots, holders, onward) for roots, holders, onward in routes)


def is_carried(roots, holders, onward):
    """Whether the entry is carried from its roots to all its holders."""
    reached = roots
    latest = roots
    while latest != 0:
        nearby = 0
        for source, bits in enumerate(onward):
            if (latest >> source) & 1 == 1:
                nearby = nearby | bits
        latest = nearby & ~reached
        reached = reached | latest
    return holders & ~reached == 0


def helpful_links(cluster, start, goal):
    """The links that the net does not have and with which the goal, which is not reachable, is reachable."""
    before = check_logs(cluster, start)
    after = check_logs(cluster, goal)
    if prefix_break(before, after) is not None:
        return []
    masks = ahead_masks(after)
    routes = find_routes(cluster, before, after, masks)
    # A further link takes no entry away from a replica, so only these entries need it.
    barred = [entry for entry, route in enumerate(routes) if not all_carried([route])]
    if not barred:
        return []
    return [link for link in absent_links(cluster.net) if carries_all(routes, masks, barred, link)]


def absent_links(net):
    """The links between replicas of the net that it does not have."""
    return [(source, reader) for source, reader in Net.complete(net.count).links if not net.has_link(source, reader)]


def carries_all(routes, masks, barred, link):
    """Whether each of the barred entries is carried to all its holders once there is this link, too."""
    source, reader = link
    for entry in barred:
        roots, holders, onward = routes[entry]
        more = changed(onward, source, onward[source] | (1 << reader))
        if not link_carries(masks, source, reader, entry) or not is_carried(roots, holders, more):
            return False
    return True


def suspects(cluster, goal):
    """The entries without which the goal, which is not reachable from the empty logs, is reachable."""
    after = check_logs(cluster, goal)
    if is_reachable(cluster, after):
        return []
    return [entry for entry in range(cluster.size) if is_reachable(cluster, logs_without(after, entry))]


def is_reachable(cluster, logs):
    """Whether the logs, which are checked already, are reachable from the empty logs."""
    return find_obstacle(cluster, empty_logs(cluster), logs) is None


def logs_without(logs, entry):
    """The logs restricted to all other entries."""
    return [[other for other in log if other != entry] for log in logs]
