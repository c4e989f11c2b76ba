"""The last entries of full reachable logs."""

from pullstore.choices import check_choices, least_unreached, named_entries
from pullstore.cluster import entry_pairs
from pullstore.crossing import home_links, home_path
from pullstore.errors import ImpossibleChoices, TooMany
from pullstore.logs import check_logs
from pullstore.paths import check_complete, check_strong, check_tree, is_complete, is_tree, link_sides
from pullstore.treecheck import check_full_on_tree


def last_entries(cluster, logs):
    """The last entry of each log, None for an empty log."""
    return [log[-1] if log else None for log in check_logs(cluster, logs)]


def split_link(cluster, logs):
    """The replicas that part the last entries and the entries that their logs end with, or None."""
    lasts = last_entries(cluster, check_full_on_tree(cluster, logs))
    # The links ascend, so that the one from the lower replica is found.
    for x, y in cluster.net.links:
        if lasts[x] != lasts[y]:
            return (x, y, lasts[x], lasts[y])
    return None


def two_lasts_fault(cluster, choices):
    """The least replica that is not reached from the home of the entry that it does not choose, or None."""
    check_strong(cluster.net)
    check_choices(cluster, choices)
    named = named_entries(choices)
    if len(named) > 2:
        raise TooMany(len(named))
    if len(named) == 1:
        return None
    one, other = named
    return least_unreached(cluster, choices, {one: other, other: one})


def tree_lasts_fault(cluster, choices):
    """The least link whose replicas differ while the home of the source's choice is on its side, or None."""
    check_tree(cluster.net)
    check_choices(cluster, choices)
    sides = link_sides(cluster.net)
    for x, y in cluster.net.links:
        if choices[x] != choices[y] and cluster.home_of(choices[x]) in sides[(x, y)]:
            return (x, y)
    return None


def complete_lasts_fault(cluster, choices):
    """Two named entries with the same home, else a home that chooses an entry of its own, or None."""
    check_complete(cluster.net)
    check_choices(cluster, choices)
    named = named_entries(choices)
    if len(named) == 1:
        return None
    for first in named:
        for second in named:
            if first < second and cluster.home_of(first) == cluster.home_of(second):
                return ("same home", first, second)
    for replica, choice in enumerate(choices):
        if cluster.home_of(choice) == replica:
            return ("own", replica)
    return None


def logs_with_lasts(cluster, choices):
    """Full reachable logs that end with the choices."""
    check_strong(cluster.net)
    check_choices(cluster, choices)
    fault = find_lasts_fault(cluster, choices)
    if fault is not None:
        raise ImpossibleChoices(fault)
    named = named_entries(choices)
    return [log_with_last(cluster, named, replica, last) for replica, last in enumerate(choices)]


def find_lasts_fault(cluster, choices):
    """What the function that can decide about the choices returns."""
    many = len(named_entries(choices))
    if many <= 2:
        return two_lasts_fault(cluster, choices)
    if is_tree(cluster.net):
        return tree_lasts_fault(cluster, choices)
    if is_complete(cluster.net):
        return complete_lasts_fault(cluster, choices)
    raise TooMany(many)


def log_with_last(cluster, named, replica, last):
    """The log of the replica that ends with this entry, behind the other named ones, its own one first."""
    unnamed = [entry for entry in range(cluster.size) if entry not in named]
    own = [entry for entry in named if entry != last and cluster.home_of(entry) == replica]
    others = [entry for entry in named if entry != last and cluster.home_of(entry) != replica]
    return unnamed + own + others + [last]


def each_lasts(cluster):
    """Yields all possible choices of last entries on a tree."""
    check_tree(cluster.net)
    for entry in range(cluster.size):
        yield [entry] * cluster.net.count
    sides = link_sides(cluster.net)
    for first, second in entry_pairs(cluster):
        for link in home_links(cluster, first, second):
            yield [second if replica in sides[link] else first for replica in range(cluster.net.count)]


def count_lasts(cluster):
    """The number of possible choices of last entries on a tree."""
    check_tree(cluster.net)
    distances = [len(home_path(cluster, first, second)) - 1 for first, second in entry_pairs(cluster)]
    return cluster.size + sum(distances)
