"""Disk stores: replicas whose logs in memory are lost when they crash, and come back from their disks."""

from pullstore.device import frames, mend, scan
from pullstore.errors import NotAllowed
from pullstore.logs import check_logs, is_unwritten
from pullstore.net import check_replica
from pullstore.run import FIRST, entry_of, on_offer, place_of


class DiskStore:
    """A disk store. It begins with all replicas up and with their logs on their disks."""

    def __init__(self, cluster, start):
        # The log in memory of each replica that is up, and the saved log of each one that is down.
        self._logs = check_logs(cluster, start)
        # A copy, because no object keeps an argument.
        self._cluster = cluster.on_net(cluster.net)
        self._disks = [frames(log) for log in self._logs]
        self._up = [True] * cluster.net.count
        self._history = []

    @property
    def logs(self):
        """The current logs."""
        return [list(log) for log in self._logs]

    @property
    def saved(self):
        """The list of the saved logs."""
        return [saved_log(cells) for cells in self._disks]

    def is_up(self, replica):
        """Whether the replica is up."""
        check_replica(self._cluster.net, replica)
        return self._up[replica]

    def cells(self, replica):
        """The cells of the replica's disk."""
        check_replica(self._cluster.net, replica)
        return list(self._disks[replica])

    def allows(self, action):
        """Whether the action is allowed now."""
        match action:
            case ("write", entry):
                return entry in range(self._cluster.size) and self._may_write(entry)
            case ("pull", source, reader, entry):
                return self._cluster.net.has_link(source, reader) and self._may_pull(source, reader, entry)
            case ("save", replica, cells):
                return self._has_up(replica) and 1 <= cells <= len(self._unsaved(replica))
            case ("crash", replica):
                return self._has_up(replica)
            case ("recover", replica):
                return self._has_down(replica)
        return False

    def _may_write(self, entry):
        """Whether the entry may be written now."""
        return self._up[self._cluster.home_of(entry)] and is_unwritten(self._logs, entry)

    def _may_pull(self, source, reader, entry):
        """Whether the entry may be pulled along this link now."""
        if not self._up[source] or not self._up[reader]:
            return False
        return entry in on_offer(saved_log(self._disks[source]), self._logs[reader], FIRST)

    def _has_up(self, replica):
        """Whether there is such a replica and it is up."""
        return replica in range(self._cluster.net.count) and self._up[replica]

    def _has_down(self, replica):
        """Whether there is such a replica and it is down."""
        return replica in range(self._cluster.net.count) and not self._up[replica]

    def _unsaved(self, replica):
        """The cells of the frames of the replica's log in memory that its disk does not have yet."""
        return frames(self._logs[replica])[len(self._disks[replica]):]

    def do(self, action):
        """Takes the action."""
        if not self.allows(action):
            raise NotAllowed(action)
        match action:
            case ("save", replica, cells):
                self._disks[replica].extend(self._unsaved(replica)[:cells])
            case ("crash", replica):
                self._up[replica] = False
                self._logs[replica] = saved_log(self._disks[replica])
            case ("recover", replica):
                self._up[replica] = True
                self._disks[replica] = mend(self._disks[replica])
            case _:
                self._logs[place_of(self._cluster, action)].append(entry_of(action))
        self._history.append(action)

    def history(self):
        """The list of all actions that were taken."""
        return list(self._history)

    def fork(self):
        """A new disk store in the same state, with the same history."""
        other = DiskStore(self._cluster, self._logs)
        other._disks = [list(cells) for cells in self._disks]
        other._up = list(self._up)
        other._history = list(self._history)
        return other


def saved_log(cells):
    """The entries that a scan of these cells returns."""
    entries, _ = scan(cells)
    return entries
