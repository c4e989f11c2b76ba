"""Rings: points 33 and 34, and the heading pullstore/ring.py."""

import itertools
import unittest

from helpers import HUGE, NO_RINGS, NOWHERE, PromiseCase, chances, full_logs
from pullstore.audit import reachable
from pullstore.cluster import Cluster
from pullstore.depths import count_ring, depths_fault, depths_of, each_depths
from pullstore.net import Net
from pullstore.ring import restore_log, ring_fault, ring_logs


def ring_worlds(sizes):
    """Clusters on rings with every list of homes: pairs of replicas and entries."""
    for count, size in sizes:
        for homes in itertools.product(range(count), repeat=size):
            yield Cluster(Net.ring(count), list(homes))


def naive_follows(cluster, logs, x):
    """Whether the log of x follows that of w, as point 33 says."""
    w = x - 1 if x > 0 else cluster.net.count - 1
    others = [entry for entry in range(cluster.size) if cluster.homes[entry] != x]
    if [entry for entry in logs[x] if entry in others] != [entry for entry in logs[w] if entry in others]:
        return False
    for entry in range(cluster.size):
        if entry not in others:
            at_x = logs[x][:logs[x].index(entry)]
            at_w = logs[w][:logs[w].index(entry)]
            if any(other not in at_w for other in at_x):
                return False
    return True


def naive_ring_fault(cluster, logs):
    """The least replica whose log does not follow."""
    return next((x for x in range(cluster.net.count) if not naive_follows(cluster, logs, x)), None)


def naive_restore(cluster, source_log, depths, x):
    """The log that has each entry of x at its depth and the others in the order of the source's log."""
    log = [None] * cluster.size
    for entry, home in enumerate(cluster.homes):
        if home == x:
            log[depths[entry]] = entry
    others = [entry for entry in source_log if cluster.homes[entry] != x]
    return [others.pop(0) if entry is None else entry for entry in log]


def every_full(cluster):
    """All full logs, reachable or not."""
    orders = [list(order) for order in itertools.permutations(range(cluster.size))]
    for logs in itertools.product(orders, repeat=cluster.net.count):
        yield [list(log) for log in logs]


class RingLogsTest(PromiseCase):
    def test_the_logs_of_these_depths(self):
        cluster = Cluster(Net.ring(2), [0, 1])
        self.gives([[0, 1], [1, 0]], ring_logs, cluster, [0, 0])
        self.gives([[0, 1], [0, 1]], ring_logs, cluster, [0, 1])
        self.gives([[1, 0], [1, 0]], ring_logs, cluster, [1, 0])
        cluster = Cluster(Net.ring(3), [0, 0, 2])
        self.gives([[0, 2, 1], [0, 2, 1], [2, 0, 1]], ring_logs, cluster, [0, 2, 0])

    def test_no_entries_and_one_home(self):
        self.gives([[], [], []], ring_logs, Cluster(Net.ring(3), []), [])
        self.gives([[1, 2, 0]] * 3, ring_logs, Cluster(Net.ring(3), [1, 1, 1]), [2, 0, 1])

    def test_errors_in_their_order(self):
        for net in NO_RINGS:
            for depths in ([], [0, 1], [0, 0], [-1, HUGE]):
                self.fails("NotRing()", ring_logs, Cluster(net, [0, 0]), depths)
        cluster = Cluster(Net.ring(3), [0, 1, 0])
        for depths, fault in [
            ([], ("length", 0)), ([0, 0], ("length", 2)), ([-1, -1, -1], ("negative", 0)), ([0, -HUGE, 0], ("negative", 1)),
            ([1, 1, 1], ("same", 0, 2)), ([1, 1, 2], ("few", 1)), ([0, 0, 3], ("few", 3)), ([0, 2, HUGE], ("few", 2)),
        ]:
            self.fails(f"InvalidDepths(fault={fault})", ring_logs, cluster, depths)

    def test_the_depths_alone_determine_all_logs(self):
        for cluster in ring_worlds([(2, 1), (2, 2), (2, 3), (3, 2), (3, 3), (4, 2), (5, 2)]):
            full = full_logs(cluster)
            found = [ring_logs(cluster, depths) for depths in each_depths(cluster)]
            self.assertEqual(sorted(map(repr, found)), sorted(map(repr, full)))
            self.assertEqual(len(full), count_ring(cluster))
            for depths, logs in zip(each_depths(cluster), found):
                self.assertEqual(depths_of(cluster, logs), depths)

    def test_the_largest_ring(self):
        cluster = Cluster(Net.ring(24), [(7 * entry) % 24 for entry in range(60)])
        for depths in itertools.islice(each_depths(cluster), 3):
            logs = ring_logs(cluster, depths)
            self.assertEqual(depths_of(cluster, logs), depths)
            self.assertIsNone(ring_fault(cluster, logs))
            self.assertTrue(reachable(cluster, [[] for _ in range(24)], logs))
            for x in range(24):
                others = [[] if y == x else log for y, log in enumerate(logs)]
                self.assertEqual(restore_log(cluster, others, depths, x), logs[x])
            logs[5][3], logs[5][4] = logs[5][4], logs[5][3]
            self.assertEqual(ring_fault(cluster, logs), naive_ring_fault(cluster, logs))


class RingFaultTest(PromiseCase):
    def test_the_least_replica_whose_log_does_not_follow(self):
        cluster = Cluster(Net.ring(3), [0, 1, 2])
        self.gives(None, ring_fault, cluster, [[0, 1, 2]] * 3)
        # The other entries stand in another order than where they come from.
        self.gives(1, ring_fault, cluster, [[0, 1, 2], [2, 1, 0], [0, 1, 2]])
        self.gives(2, ring_fault, cluster, [[0, 1, 2], [0, 1, 2], [1, 0, 2]])
        self.gives(0, ring_fault, cluster, [[0, 2, 1], [1, 0, 2], [1, 0, 2]])

    def test_what_is_ahead_of_an_own_entry_is_ahead_of_it_at_the_source(self):
        cluster = Cluster(Net.ring(2), [0, 1])
        self.gives(None, ring_fault, cluster, [[0, 1], [1, 0]])
        self.gives(0, ring_fault, cluster, [[1, 0], [0, 1]])
        cluster = Cluster(Net.ring(2), [0, 0])
        self.gives(0, ring_fault, cluster, [[0, 1], [1, 0]])

    def test_no_entries_and_two_replicas(self):
        self.gives(None, ring_fault, Cluster(Net.ring(2), []), [[], []])
        # The line of two replicas is a ring, too.
        self.gives(None, ring_fault, Cluster(Net.line(2), [0, 1]), [[0, 1], [1, 0]])
        self.gives(0, ring_fault, Cluster(Net.line(2), [0, 1]), [[1, 0], [0, 1]])

    def test_errors_in_their_order(self):
        for net in NO_RINGS:
            for logs in ([], [[7]] * net.count, [[]] * net.count, [[0, 1]] * net.count):
                self.fails("NotRing()", ring_fault, Cluster(net, [0, 0]), logs)
        cluster = Cluster(Net.ring(3), [0, 1])
        for logs, error in [
            ([[0, 1], [0, 1]], "InvalidLogs(replica=None)"),
            ([[0], [0, 1], [2]], "InvalidLogs(replica=2)"),
            ([[0, 0], [], [2]], "InvalidLogs(replica=0)"),
            ([[0, 1], [1, 0], [1]], "NotFull(replica=2)"),
            ([[], [], []], "NotFull(replica=0)"),
            ([[1, 0], [0], [1]], "NotFull(replica=1)"),
        ]:
            self.fails(error, ring_fault, cluster, logs)

    def test_none_exactly_for_reachable_logs(self):
        for cluster in ring_worlds([(2, 1), (2, 2), (2, 3), (3, 2), (3, 3), (4, 2)]):
            reached = {repr(logs) for logs in full_logs(cluster)}
            for logs in every_full(cluster):
                fault = ring_fault(cluster, logs)
                self.assertEqual(fault, naive_ring_fault(cluster, logs))
                self.assertEqual(fault is None, repr(logs) in reached)

    def test_larger_rings(self):
        for chance in chances(60, "rings"):
            count, size = chance.randint(2, 6), chance.randint(0, 6)
            cluster = Cluster(Net.ring(count), [chance.randrange(count) for _ in range(size)])
            logs = ring_logs(cluster, chance.choice(list(itertools.islice(each_depths(cluster), 50))))
            for _ in range(chance.randint(0, 2)):
                if size > 1:
                    log, at = chance.choice(logs), chance.randrange(size - 1)
                    log[at], log[at + 1] = log[at + 1], log[at]
            expected = naive_ring_fault(cluster, logs)
            self.gives(expected, ring_fault, cluster, logs)
            self.assertEqual(expected is None, reachable(cluster, [[] for _ in range(count)], logs))


class RestoreLogTest(PromiseCase):
    def test_from_the_log_of_the_replica_from_which_it_pulls(self):
        cluster = Cluster(Net.ring(3), [0, 1, 1, 2])
        logs = [[3, 0, 1, 2], [1], [2, 3]]
        self.gives([1, 3, 2, 0], restore_log, cluster, logs, [0, 0, 2, 1], 1)
        # The replica's own log has no effect, and neither have those of others.
        self.gives([1, 3, 2, 0], restore_log, cluster, [[3, 0, 1, 2], [], []], [0, 0, 2, 1], 1)
        self.gives([1, 3, 2, 0], restore_log, cluster, [[3, 0, 1, 2], [0, 1, 2, 3], []], [0, 0, 2, 1], 1)

    def test_replica_0_pulls_from_the_last_one(self):
        cluster = Cluster(Net.ring(2), [0, 1])
        self.gives([0, 1], restore_log, cluster, [[], [1, 0]], [0, 0], 0)
        self.gives([1, 0], restore_log, cluster, [[], [1, 0]], [1, 0], 0)
        self.gives([1, 0], restore_log, cluster, [[0, 1], []], [0, 0], 1)
        self.gives([1, 0], restore_log, Cluster(Net.line(2), [0, 1]), [[0, 1], []], [0, 0], 1)

    def test_a_replica_that_is_the_home_of_none_or_of_all(self):
        cluster = Cluster(Net.ring(3), [0, 0, 0])
        self.gives([2, 0, 1], restore_log, cluster, [[], [2, 0, 1], []], [0, 1, 2], 2)
        self.gives([1, 2, 0], restore_log, cluster, [[], [], [0, 1, 2]], [2, 0, 1], 0)
        self.gives([], restore_log, Cluster(Net.ring(2), []), [[], []], [], 1)

    def test_entries_are_inserted_in_ascending_order_of_their_depths(self):
        cluster = Cluster(Net.ring(2), [1, 1, 1, 0, 0])
        self.gives([2, 3, 0, 4, 1], restore_log, cluster, [[3, 4, 0, 1, 2], []], [2, 4, 0, 0, 1], 1)
        self.gives([0, 3, 1, 4, 2], restore_log, cluster, [[2, 1, 3, 0, 4], []], [0, 2, 4, 0, 1], 1)

    def test_errors_in_their_order(self):
        for net in NO_RINGS:
            self.fails("NotRing()", restore_log, Cluster(net, [0, 0]), [], [], 0)
            self.fails("NotRing()", restore_log, Cluster(net, [0, 0]), [[0, 1]] * net.count, [0, 1], 0)
        cluster = Cluster(Net.ring(3), [0, 1])
        fine = [[0, 1], [0, 1], [1, 0]]
        for logs, depths, replica, error in [
            ([[0, 1], [2], []], [5], 9, "InvalidLogs(replica=1)"),
            ([[0, 1], [0, 1]], [5], 9, "InvalidLogs(replica=None)"),
            # The replica's own log is checked as well.
            ([[0, 1], [0, 0], [0, 1]], [0, 0], 1, "InvalidLogs(replica=1)"),
            ([[0, 1], [3], [0, 1]], [0, 0], 1, "InvalidLogs(replica=1)"),
            (fine, [0], 9, "InvalidDepths(fault=('length', 1))"),
            (fine, [0, -1], 9, "InvalidDepths(fault=('negative', 1))"),
            ([[], [], []], [1, 1], 0, "InvalidDepths(fault=('few', 1))"),
            ([[], [], []], [0, 0], 3, "UnknownReplica(replica=3)"),
            ([[], [0, 1], [0, 1]], [0, 0], 1, "NotFull(replica=0)"),
            ([[0, 1], [1], [0, 1]], [0, 0], 2, "NotFull(replica=1)"),
            ([[0, 1], [0, 1], [1]], [0, 0], 0, "NotFull(replica=2)"),
        ]:
            self.fails(error, restore_log, cluster, logs, depths, replica)
        for replica in NOWHERE:
            self.fails(f"UnknownReplica(replica={replica})", restore_log, cluster, fine, [0, 0], replica)

    def test_the_logs_of_all_replicas(self):
        for cluster in ring_worlds([(2, 1), (2, 2), (2, 3), (3, 2), (3, 3), (4, 2)]):
            for depths in each_depths(cluster):
                logs = ring_logs(cluster, depths)
                for x in range(cluster.net.count):
                    w = (x - 1) % cluster.net.count
                    alone = [list(log) if y == w else [] for y, log in enumerate(logs)]
                    self.assertEqual(restore_log(cluster, alone, depths, x), logs[x])

    def test_logs_that_are_not_reachable(self):
        for chance in chances(80, "restore"):
            count, size = chance.randint(2, 5), chance.randint(0, 6)
            cluster = Cluster(Net.ring(count), [chance.randrange(count) for _ in range(size)])
            depths = chance.choice(list(itertools.islice(each_depths(cluster), 80)))
            self.assertIsNone(depths_fault(cluster, depths))
            logs = [chance.sample(range(size), chance.randint(0, size)) for _ in range(count)]
            x = chance.randrange(count)
            logs[x - 1] = chance.sample(range(size), size)
            self.gives(naive_restore(cluster, logs[x - 1], depths, x), restore_log, cluster, logs, depths, x)


if __name__ == "__main__":
    unittest.main()
