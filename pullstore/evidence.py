"""Evidence about whether a goal is reachable. It is judged without searching."""

from pullstore.carry import find_roots
from pullstore.cluster import check_entry
from pullstore.errors import BadTrace
from pullstore.logs import begins_with, check_logs, entries_before
from pullstore.run import replay


class Evidence:
    """Evidence of some kind."""

    def __init__(self, kind):
        self.kind = kind

    def holds(self, cluster, start, goal):
        """True, once the logs are checked."""
        check_logs(cluster, start)
        check_logs(cluster, goal)
        return True


class PrefixFault(Evidence):
    """The log of the replica in the start is not a prefix of its log in the goal."""

    def __init__(self, replica):
        super().__init__("prefix")
        self.replica = replica

    def holds(self, cluster, start, goal):
        """Whether the replica exists and its logs are as the fault says."""
        before = check_logs(cluster, start)
        after = check_logs(cluster, goal)
        if self.replica not in range(cluster.net.count):
            return False
        return not begins_with(after[self.replica], before[self.replica])


class Barrier(Evidence):
    """The entry is not carried out of the replicas inside."""

    def __init__(self, entry, inside):
        super().__init__("barrier")
        self.entry = entry
        self.inside = list(inside)

    def bars(self, cluster, goal):
        """For each link out of the inside whose replicas hold the entry: the link and its blocker."""
        after = check_logs(cluster, goal)
        check_entry(cluster, self.entry)
        found = []
        for source, reader in cluster.net.links:
            leads_out = source in self.inside and reader not in self.inside
            if leads_out and self.entry in after[source] and self.entry in after[reader]:
                blocker = first_blocker(after[source], after[reader], self.entry)
                found.append((source, reader, blocker))
        return found

    def holds(self, cluster, start, goal):
        """Whether the entry and the replicas exist and the four conditions are met."""
        before = check_logs(cluster, start)
        after = check_logs(cluster, goal)
        if self.entry not in range(cluster.size):
            return False
        everyone = list(range(cluster.net.count))
        if self.inside != [replica for replica in everyone if replica in self.inside]:
            return False
        outside = [replica for replica in everyone if replica not in self.inside]
        # Conditions 1 and 2 together say that all roots are inside.
        roots = find_roots(cluster, before, after, self.entry)
        starts_inside = all(root in self.inside for root in roots)
        is_missed = any(self.entry in after[replica] for replica in outside)
        is_shut = all(blocker is not None for _, _, blocker in self.bars(cluster, after))
        return starts_inside and is_missed and is_shut


def first_blocker(source_log, reader_log, entry):
    """The first entry ahead of this one at the source and not ahead of it at the reader, or None."""
    passed = entries_before(reader_log, entry)
    for other in entries_before(source_log, entry):
        if other not in passed:
            return other
    return None


class Schedule(Evidence):
    """The trace is a run from the start to the goal."""

    def __init__(self, trace):
        super().__init__("schedule")
        self.trace = list(trace)

    def holds(self, cluster, start, goal):
        """Whether the trace is such a run."""
        before = check_logs(cluster, start)
        after = check_logs(cluster, goal)
        try:
            return replay(cluster, before, self.trace) == after
        except BadTrace:
            return False
