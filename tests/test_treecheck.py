"""Logs on trees: points 20 and 21, and the heading pullstore/treecheck.py."""

import itertools
import unittest

from helpers import (
    NO_TREES, NOWHERE, PromiseCase, all_logs, all_nets, all_reached, all_trees, chances, naive_reachable, side_of,
    some_cluster, some_logs, some_run, some_tree,
)
from pullstore.cluster import Cluster
from pullstore.logs import restrict
from pullstore.net import Net
from pullstore.settle import settled_logs
from pullstore.treecheck import link_fault, pair_fault, tree_fault


def naive_link_fault(cluster, logs, source, reader):
    """The fault of a link as point 20 says, word by word."""
    side = side_of(cluster.net, source, reader)
    for entry in logs[reader]:
        if cluster.homes[entry] not in side:
            continue
        if entry not in logs[source]:
            return (entry, None)
        passed = logs[reader][:logs[reader].index(entry)]
        for other in logs[source][:logs[source].index(entry)]:
            if other not in passed:
                return (entry, other)
    return None


def naive_tree_fault(cluster, logs):
    for source, reader in cluster.net.links:
        fault = naive_link_fault(cluster, logs, source, reader)
        if fault:
            return (source, reader, *fault)
    return None


def naive_pair_fault(cluster, logs):
    entries = range(len(cluster.homes))
    for many in (1, 2):
        for kept in itertools.combinations(entries, many):
            if not naive_reachable(cluster, [[entry for entry in log if entry in kept] for log in logs]):
                return kept
    return None


def worlds():
    """Small clusters on trees, in several numberings."""
    for count, homes in [(1, [0, 0, 0]), (2, [0, 0]), (2, [0, 1]), (2, [1, 1, 0]), (3, [0, 2]), (3, [1, 1]), (3, [1, 2])]:
        for pairs in all_trees(count):
            yield Cluster(Net.both_ways(count, pairs), homes)


class LinkFaultTest(PromiseCase):
    def setUp(self):
        self.cluster = Cluster(Net.line(3), [0, 2, 2, 0])

    def check(self, logs, faults):
        """The faults of the links (0, 1), (1, 0), (1, 2) and (2, 1), and the least one of them."""
        for link, fault in zip(self.cluster.net.links, faults):
            self.gives(fault, link_fault, self.cluster, logs, *link)
        found = [link + fault for link, fault in zip(self.cluster.net.links, faults) if fault]
        self.gives((found + [None])[0], tree_fault, self.cluster, logs)

    def test_without_a_fault(self):
        self.check([[], [], []], [None] * 4)
        self.check([[0, 1], [0, 1], [1, 0]], [None] * 4)
        self.check([[0, 3, 1], [0, 1, 3, 2], [1, 2, 0, 3]], [None] * 4)

    def test_the_source_does_not_hold_the_entry(self):
        self.check([[], [0], []], [(0, None), None, None, None])
        self.check([[0], [0, 1], []], [None, None, None, (1, None)])
        self.check([[0], [], [0]], [None, None, (0, None), None])
        self.check([[1, 2], [], [1]], [None, (1, None), None, None])

    def test_an_entry_is_ahead_at_the_source_only(self):
        self.check([[3, 0], [0], []], [(0, 3), None, None, None])
        self.check([[0, 3], [3, 0], []], [(3, 0), None, None, None])
        self.check([[0], [0, 1], [2, 1]], [None, None, None, (1, 2)])
        self.check([[], [2, 1], [2, 1]], [None, None, None, None])
        # Also an entry that comes from the other side.
        self.check([[1, 0], [0, 1], [1]], [(0, 1), (1, 0), None, None])

    def test_the_first_entry_in_the_order_of_the_reader(self):
        self.check([[], [3, 0], []], [(3, None), None, None, None])
        self.check([[3, 0], [0, 3], []], [(0, 3), None, None, None])
        self.check([[0], [3, 0], []], [(3, None), None, None, None])
        self.check([[0], [0, 3], []], [(3, None), None, None, None])

    def test_the_blocker_is_the_first_one_at_the_source(self):
        self.cluster = Cluster(Net.line(3), [0, 0, 0, 0])
        self.check([[3, 1, 2, 0], [0], []], [(0, 3), None, None, None])
        self.check([[3, 1, 2, 0], [3, 0], []], [(0, 1), None, None, None])
        self.check([[1, 3, 2, 0], [1, 3, 0, 2], []], [(0, 2), None, None, None])

    def test_entries_from_the_readers_side_are_no_fault(self):
        self.check([[], [1], [1]], [None] * 4)
        self.check([[0, 3], [0], []], [None] * 4)
        # At the link (1, 2) only the entries from 0 and 1 count.
        self.check([[0], [0], [1, 2, 0]], [None] * 4)

    def test_the_least_link_is_told(self):
        self.check([[1], [0], [0]], [(0, None), (1, None), None, None])
        self.check([[1], [], [0]], [None, (1, None), (0, None), None])
        self.check([[], [2], [0]], [None, None, (0, None), (2, None)])

    def test_one_replica(self):
        cluster = Cluster(Net.line(1), [0, 0])
        for logs in ([[]], [[1]], [[1, 0]], [[0, 1]]):
            self.gives(None, tree_fault, cluster, logs)
            self.gives(None, pair_fault, cluster, logs)
            self.fails("NotLinked(source=0, reader=0)", link_fault, cluster, logs, 0, 0)

    def test_against_the_words_of_the_document(self):
        for chance in chances(200, "link fault"):
            cluster = some_tree(chance, 6, 5)
            logs = some_logs(chance, cluster)
            if chance.random() < 0.7:
                _, logs = some_run(chance, cluster, [[] for _ in logs], 25)
            if chance.random() < 0.7:
                chance.shuffle(chance.choice(logs))
            for source, reader in cluster.net.links:
                expected = naive_link_fault(cluster, logs, source, reader)
                self.gives(expected, link_fault, cluster, logs, source, reader)
            self.gives(naive_tree_fault(cluster, logs), tree_fault, cluster, logs)
            self.gives(naive_pair_fault(cluster, logs), pair_fault, cluster, logs)


class ErrorsTest(PromiseCase):
    def test_the_net_comes_before_the_logs(self):
        for net in NO_TREES:
            cluster = Cluster(net, [0, 0])
            fine = [[] for _ in range(net.count)]
            for logs in (fine, [[7]] + fine[1:], []):
                self.fails("NotTree()", tree_fault, cluster, logs)
                for source, reader in [(0, 1), (1, 0), (0, 0), (9, -1)]:
                    self.fails("NotTree()", link_fault, cluster, logs, source, reader)

    def test_the_logs_come_before_the_link(self):
        cluster = Cluster(Net.line(3), [0, 0])
        for logs, error in [([[], [], [2]], "InvalidLogs(replica=2)"), ([[1, 1], [-1], []], "InvalidLogs(replica=0)"),
                            ([[], []], "InvalidLogs(replica=None)")]:
            self.fails(error, tree_fault, cluster, logs)
            self.fails(error, pair_fault, cluster, logs)
            for source, reader in [(0, 1), (0, 2), (1, 1), (9, -1)]:
                self.fails(error, link_fault, cluster, logs, source, reader)

    def test_pairs_that_are_no_links(self):
        cluster = Cluster(Net.line(3), [0, 0])
        for logs in ([[], [], []], [[], [0], []]):
            for source, reader in [(0, 2), (2, 0), (1, 1)]:
                error = f"NotLinked(source={source}, reader={reader})"
                self.fails(error, link_fault, cluster, logs, source, reader)
            for wrong in [3, -3, *NOWHERE]:
                self.fails(f"NotLinked(source={wrong}, reader=1)", link_fault, cluster, logs, wrong, 1)
                self.fails(f"NotLinked(source=1, reader={wrong})", link_fault, cluster, logs, 1, wrong)


class PairFaultTest(PromiseCase):
    def test_a_single_entry(self):
        cluster = Cluster(Net.line(3), [0, 2, 2, 0])
        self.gives((0,), pair_fault, cluster, [[], [0], []])
        self.gives((1,), pair_fault, cluster, [[0, 1], [0], [1]])
        self.gives((3,), pair_fault, cluster, [[0, 3], [0], [3]])

    def test_a_pair(self):
        cluster = Cluster(Net.line(3), [0, 2, 2, 0])
        self.gives((0, 3), pair_fault, cluster, [[3, 0], [0], []])
        self.gives((0, 1), pair_fault, cluster, [[1, 0], [0, 1], [1]])
        self.gives((1, 2), pair_fault, cluster, [[0], [0, 1], [2, 1]])

    def test_single_entries_come_before_pairs(self):
        cluster = Cluster(Net.line(3), [0, 0, 0, 0])
        # The pair (0, 1) has a fault, but so has entry 3 alone.
        self.gives((0, 1), pair_fault, cluster, [[1, 0], [0], []])
        self.gives((3,), pair_fault, cluster, [[1, 0], [0, 3], []])

    def test_the_least_pair(self):
        cluster = Cluster(Net.line(2), [0, 0, 0, 0])
        self.gives((1, 2), pair_fault, cluster, [[0, 2, 1, 3], [0, 1, 3]])
        self.gives((0, 3), pair_fault, cluster, [[3, 0, 1, 2], [0, 1, 2]])
        self.gives((0, 2), pair_fault, cluster, [[1, 2, 0, 3], [1, 0]])

    def test_no_fault(self):
        cluster = Cluster(Net.line(3), [0, 2])
        self.gives(None, pair_fault, cluster, [[0, 1], [0, 1], [1, 0]])
        self.gives(None, pair_fault, cluster, [[], [], []])
        self.gives(None, pair_fault, Cluster(Net.line(2), []), [[], []])

    def test_nets_of_any_kind(self):
        for net in NO_TREES:
            cluster = Cluster(net, [0, 0])
            empty = [[] for _ in range(net.count)]
            self.gives(None, pair_fault, cluster, empty)
            self.gives((0,), pair_fault, cluster, empty[1:] + [[0]])
        cluster = Cluster(Net(2, [(0, 1)]), [0, 0])
        self.gives((0, 1), pair_fault, cluster, [[1, 0], [0]])
        self.gives((1,), pair_fault, Cluster(Net(2, [(0, 1)]), [0, 1]), [[0, 1], [1, 0]])
        for chance in chances(150, "any net"):
            cluster = some_cluster(chance, 4)
            logs = some_logs(chance, cluster)
            if chance.random() < 0.7:
                _, logs = some_run(chance, cluster, [[] for _ in logs], 12)
                chance.shuffle(logs[0])
            self.gives(naive_pair_fault(cluster, logs), pair_fault, cluster, logs)


class ReachableTest(PromiseCase):
    def test_logs_on_a_tree_are_reachable_exactly_if_no_link_has_a_fault(self):
        for cluster in worlds():
            reached = all_reached(cluster, [[] for _ in range(cluster.net.count)])
            for logs in all_logs(cluster):
                fault = tree_fault(cluster, logs)
                self.assertEqual(fault, naive_tree_fault(cluster, logs))
                self.assertEqual(fault is None, repr(logs) in reached)

    def test_logs_on_a_tree_are_reachable_exactly_if_no_entry_and_no_pair_has_a_fault(self):
        for homes in ([0, 0, 1], [1, 0, 1], [0, 0, 0]):
            cluster = Cluster(Net.line(2), homes)
            reached = all_reached(cluster, [[], []])
            for logs in all_logs(cluster):
                fault = pair_fault(cluster, logs)
                self.assertEqual(fault, naive_pair_fault(cluster, logs))
                self.assertEqual(fault is None, repr(logs) in reached)

    def test_a_restriction_of_reachable_logs_is_reachable(self):
        for net in itertools.chain(all_nets(2), (Net.ring(3), Net.complete(3), Net(3, [(0, 1), (1, 2)]))):
            cluster = Cluster(net, [0, 0, net.count - 1] if net.count == 2 else [0, 1])
            empty = [[] for _ in range(net.count)]
            reached = all_reached(cluster, empty)
            for logs in all_logs(cluster):
                if repr(logs) in reached:
                    self.assertIsNone(pair_fault(cluster, logs))
                    for entry in range(cluster.size):
                        self.assertIn(repr(restrict(cluster, logs, entry, 1)), reached)

    def test_the_largest_cluster(self):
        for net in (Net.line(24), Net.star(24)):
            cluster = Cluster(net, [(7 * entry) % 24 for entry in range(60)])
            logs = settled_logs(cluster, [cluster.entries_at(x) for x in range(24)])
            self.assertIsNone(tree_fault(cluster, logs))
            self.assertIsNone(pair_fault(cluster, logs))
            logs[23].pop()
            self.assertEqual(tree_fault(cluster, logs), naive_tree_fault(cluster, logs))


if __name__ == "__main__":
    unittest.main()
