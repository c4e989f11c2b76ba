"""What can be reached on a net, the kinds of nets, and the paths of trees."""

from pullstore.errors import NotComplete, NotRing, NotStrong, NotTree
from pullstore.net import Net, check_link, check_replica


def reach_within(net, starts, allowed):
    """The replicas that can be reached from the starts along links between allowed replicas."""
    for replica in starts:
        check_replica(net, replica)
    for replica in allowed:
        check_replica(net, replica)
    inside = [replica in allowed for replica in range(net.count)]
    reached = [inside[replica] and replica in starts for replica in range(net.count)]
    waiting = [replica for replica in range(net.count) if reached[replica]]
    while waiting:
        source = waiting.pop()
        for reader in net.readers(source):
            if inside[reader] and not reached[reader]:
                reached[reader] = True
                waiting.append(reader)
    return [replica for replica in range(net.count) if reached[replica]]


def is_two_way(net):
    """Whether each link of the net is there in both directions."""
    return all(net.has_link(reader, source) for source, reader in net.links)


def is_strong(net):
    """Whether every replica can be reached from every other one."""
    # This is so if replica 0 reaches all others and, against the links, all others reach it.
    turned = Net(net.count, [(reader, source) for source, reader in net.links])
    return reaches_all(net) and reaches_all(turned)


def reaches_all(net):
    """Whether every replica can be reached from replica 0."""
    everyone = list(range(net.count))
    return reach_within(net, [0], everyone) == everyone


def is_tree(net):
    """Whether the net is two-way and strong and has no link too many."""
    return len(net.links) == 2 * (net.count - 1) and is_two_way(net) and is_strong(net)


def is_ring(net):
    """Whether each replica is read by the next one alone, and the last by 0."""
    return net.count >= 2 and net.links == Net.ring(net.count).links


def is_complete(net):
    """Whether any two replicas are linked."""
    return net.links == Net.complete(net.count).links


def check_strong(net):
    """Raises NotStrong if the net is not strong."""
    if not is_strong(net):
        raise NotStrong()


def check_ring(net):
    """Raises NotRing if the net is not a ring."""
    if not is_ring(net):
        raise NotRing()


def check_complete(net):
    """Raises NotComplete if the net is not complete."""
    if not is_complete(net):
        raise NotComplete()


def check_tree(net):
    """Raises NotTree if the net is not a tree."""
    if not is_tree(net):
        raise NotTree()


def tree_path(net, first, last):
    """The replicas on the path from the first to the last, in the order of the path."""
    check_tree(net)
    check_replica(net, first)
    check_replica(net, last)
    toward = steps_toward(net, last)
    path = [first]
    while path[-1] != last:
        path.append(toward[path[-1]])
    return path


def steps_toward(net, last):
    """For each replica of a tree the next one on its path to the last, which has itself.

    Each replica comes behind the next one.
    """
    toward = {last: last}
    waiting = [last]
    while waiting:
        replica = waiting.pop()
        for neighbour in net.readers(replica):
            if neighbour not in toward:
                toward[neighbour] = replica
                waiting.append(neighbour)
    return toward


def tree_distance(net, first, last):
    """The number of links on the path from the first to the last."""
    return len(tree_path(net, first, last)) - 1


def tree_side(net, source, reader):
    """The replicas that are nearer to the source than to the reader."""
    check_tree(net)
    check_link(net, source, reader)
    # Whoever is nearer to the source is reached from it without passing the reader.
    return reach_within(net, [source], [replica for replica in range(net.count) if replica != reader])


def link_sides(net):
    """For each link of a tree the replicas on the source's side."""
    return {(source, reader): tree_side(net, source, reader) for source, reader in net.links}
