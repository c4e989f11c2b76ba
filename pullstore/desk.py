"""Desks: they keep one store, may have a goal, and can undo and redo actions."""

from pullstore.audit import audit, check_reachable, leads_on, plan
from pullstore.errors import NoGoal, NotAllowed, NotFitting, NothingToRedo, NothingToUndo
from pullstore.logs import check_logs, count_missing, empty_logs
from pullstore.readings import read_entry, split_keys
from pullstore.report import check_data, report_text
from pullstore.run import FIRST, entry_of, is_allowed, place_of
from pullstore.settle import settle


class Desk:
    """A desk. While it has a goal, it only takes actions that fit, so that the goal stays reachable."""

    def __init__(self, cluster, key_of, value_of):
        check_data(cluster, key_of, value_of)
        # Copies, because no object keeps an argument.
        self._cluster = cluster.on_net(cluster.net)
        self._key_of = list(key_of)
        self._value_of = list(value_of)
        self._logs = empty_logs(cluster)
        self._goal = None
        self._taken = []
        self._undone = []

    @property
    def logs(self):
        """The current logs."""
        return [list(log) for log in self._logs]

    @property
    def goal(self):
        """The goal, or None."""
        if self._goal is None:
            return None
        return [list(log) for log in self._goal]

    @goal.setter
    def goal(self, logs):
        """Sets the goal as set_goal does."""
        self.set_goal(logs)

    @property
    def left(self):
        """The number of missing pairs from the current logs to the goal, or None without a goal."""
        if self._goal is None:
            return None
        return count_missing(self._logs, self._goal)

    def set_goal(self, logs):
        """Sets the goal, which must be reachable from the current logs."""
        after = check_logs(self._cluster, logs)
        check_reachable(self._cluster, self._logs, after)
        self._goal = after
        self._undone = []

    def clear_goal(self):
        """Removes the goal, if there is one."""
        if self._goal is not None:
            self._goal = None
            self._undone = []

    def do(self, action):
        """Takes an action, which must be allowed and fit the goal, if there is one."""
        self.attempt(action)

    def attempt(self, *actions):
        """Takes all actions in their order, or none of them, and returns their number."""
        # The preview judges all of them before anything changes.
        self._logs = self.preview(*actions)
        self._taken.extend(actions)
        if actions:
            self._undone = []
        return len(actions)

    def preview(self, *actions):
        """The logs after these actions, without taking them."""
        logs = [list(log) for log in self._logs]
        for action in actions:
            if not is_allowed(self._cluster, logs, action, FIRST):
                raise NotAllowed(action)
            if self._goal is not None and not leads_on(self._cluster, logs, self._goal, action):
                raise NotFitting(action)
            logs[place_of(self._cluster, action)].append(entry_of(action))
        return logs

    def undo(self):
        """Takes back the latest action that was taken, and returns it."""
        if not self._taken:
            raise NothingToUndo()
        action = self._taken.pop()
        # It appended the entry that is now at the end of the log of its place.
        self._logs[place_of(self._cluster, action)].pop()
        self._undone.append(action)
        return action

    def redo(self):
        """Takes the action again that was undone last, and returns it."""
        if not self._undone:
            raise NothingToRedo()
        action = self._undone.pop()
        self._logs[place_of(self._cluster, action)].append(entry_of(action))
        self._taken.append(action)
        return action

    def taken(self):
        """The actions that were taken and not taken back, in their order."""
        return list(self._taken)

    def advance(self, count=1):
        """Takes the first actions of one plan to the goal, and returns them."""
        if self._goal is None:
            raise NoGoal()
        steps = plan(self._cluster, self._logs, self._goal)[:max(count, 0)]
        self.attempt(*steps)
        return steps

    def sync(self):
        """Takes the pulls that settle the current logs, or none of them, and returns their number."""
        pulls = settle(self._cluster, self._logs)
        return self.attempt(*pulls)

    def why(self, goal):
        """The evidence whether a run leads from the current logs to these."""
        return audit(self._cluster, self._logs, goal)

    def read(self, replica, key):
        """The value that the replica reads for the key, or None."""
        entry = read_entry(self._cluster, self._logs, self._key_of, replica, key)
        if entry is None:
            return None
        return self._value_of[entry]

    def splits(self):
        """The keys for which the replicas differ, with the links and the entries that part them."""
        return split_keys(self._cluster, self._logs, self._key_of)

    def report(self):
        """A table of what every replica reads."""
        return report_text(self._cluster, self._logs, self._key_of, self._value_of)

    def fork(self):
        """A new desk in the same state."""
        other = Desk(self._cluster, self._key_of, self._value_of)
        other._logs = [list(log) for log in self._logs]
        other._goal = self.goal
        other._taken = list(self._taken)
        other._undone = list(self._undone)
        return other
