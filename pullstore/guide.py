"""Guides: they lead logs to a goal by actions that fit."""

from pullstore.audit import check_reachable, fits, next_planned
from pullstore.errors import NotFitting, NothingToUndo
from pullstore.logs import check_logs, count_missing
from pullstore.run import entry_of, place_of


class Guide:
    """Leads logs to a goal; it only takes actions that fit, so that the goal stays reachable."""

    def __init__(self, cluster, start, goal):
        now = check_logs(cluster, start)
        after = check_logs(cluster, goal)
        check_reachable(cluster, now, after)
        # A copy, because no object keeps an argument.
        self._cluster = cluster.on_net(cluster.net)
        self._logs = now
        self._goal = after
        self._taken = []

    @property
    def logs(self):
        """The current logs."""
        return [list(log) for log in self._logs]

    @property
    def left(self):
        """The number of missing pairs from the current logs to the goal."""
        return count_missing(self._logs, self._goal)

    def next_action(self):
        """The first action of the plan from the current logs, or None if the goal is reached."""
        return next_planned(self._cluster, self._logs, self._goal)

    def take(self, action):
        """Takes an action, which must fit the goal."""
        if not fits(self._cluster, self._logs, self._goal, action):
            raise NotFitting(action)
        self._logs[place_of(self._cluster, action)].append(entry_of(action))
        self._taken.append(action)

    def undo(self):
        """Takes back the latest action that was taken, and returns it."""
        if not self._taken:
            raise NothingToUndo()
        action = self._taken.pop()
        # It appended the entry that is now at the end of the log of its place.
        self._logs[place_of(self._cluster, action)].pop()
        return action

    def taken(self):
        """The actions that were taken and not taken back, in their order."""
        return list(self._taken)
