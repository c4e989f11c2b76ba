"""Clusters: a net together with the homes of its entries."""

from pullstore.errors import InvalidHomes, UnknownEntry
from pullstore.net import Net, check_replica


class Cluster:
    """A cluster of `size` entries on the net `net`."""

    MOST = 60

    def __init__(self, net, homes):
        if len(homes) > Cluster.MOST:
            raise InvalidHomes(None)
        for entry, home in enumerate(homes):
            if home not in range(net.count):
                raise InvalidHomes(entry)
        # A copy, because no object keeps an argument.
        self.net = Net(net.count, net.links)
        self.size = len(homes)
        self._homes = list(homes)

    @property
    def homes(self):
        """The list with the home of each entry."""
        return list(self._homes)

    def home_of(self, entry):
        """The home of the entry."""
        check_entry(self, entry)
        return self._homes[entry]

    def entries_at(self, replica):
        """The entries whose home is this replica."""
        check_replica(self.net, replica)
        return [entry for entry in range(self.size) if self._homes[entry] == replica]

    def on_net(self, net):
        """A new cluster with the same homes on another net."""
        return Cluster(net, self._homes)


def check_entry(cluster, entry):
    """Raises UnknownEntry if the cluster has no such entry."""
    if entry not in range(cluster.size):
        raise UnknownEntry(entry)


def entry_pairs(cluster):
    """All pairs (first, second) of entries with first < second, in ascending order."""
    return [(first, second) for first in range(cluster.size) for second in range(first + 1, cluster.size)]
