"""Settling: points 11 and 24, and the heading pullstore/settle.py."""

import unittest

from helpers import (
    PromiseCase, after_action, all_nets, chances, possible, reached_from, some_cluster, some_logs,
)
from pullstore.cluster import Cluster
from pullstore.net import Net
from pullstore.settle import is_settled, pulls_left, settle, settled_logs


def pulls(cluster, logs):
    return [action for action in possible(cluster, logs) if action[0] == "pull"]


def naive_settle(cluster, logs):
    """The pulls, each at the least link at which an entry is on offer, and the logs after them."""
    trace = []
    while pulls(cluster, logs):
        trace.append(pulls(cluster, logs)[0])
        logs = after_action(cluster, logs, trace[-1])
    return trace, logs


class SettleTest(PromiseCase):
    def check(self, cluster, logs):
        trace, later = naive_settle(cluster, logs)
        self.gives(trace, settle, cluster, logs)
        self.gives(later, settled_logs, cluster, logs)
        self.gives(len(trace), pulls_left, cluster, logs)
        self.gives(not trace, is_settled, cluster, logs)
        self.gives(True, is_settled, cluster, later)
        self.gives([], settle, cluster, later)
        for replica in range(cluster.net.count):
            reaching = [x for x in range(cluster.net.count) if replica in reached_from(cluster.net.links, [x])]
            self.assertEqual(set(later[replica]), {entry for x in reaching for entry in logs[x]})

    def test_each_pull_is_at_the_least_link_with_an_offer(self):
        cluster = Cluster(Net.line(3), [0, 2])
        expected = [("pull", 0, 1, 0), ("pull", 1, 2, 0), ("pull", 2, 1, 1), ("pull", 1, 0, 1)]
        self.gives(expected, settle, cluster, [[0], [], [1]])
        self.gives([[0, 1], [0, 1], [1, 0]], settled_logs, cluster, [[0], [], [1]])
        self.gives(4, pulls_left, cluster, [[0], [], [1]])
        self.gives(False, is_settled, cluster, [[0], [], [1]])

    def test_a_lower_link_comes_again_as_soon_as_it_has_an_offer(self):
        cluster = Cluster(Net.line(3), [0, 0, 2, 2])
        expected = [("pull", 2, 1, 2), ("pull", 1, 0, 2), ("pull", 2, 1, 3), ("pull", 1, 0, 3)]
        self.gives(expected, settle, cluster, [[], [], [2, 3]])

    def test_nothing_is_written(self):
        cluster = Cluster(Net.line(2), [0, 1])
        self.gives([], settle, cluster, [[], []])
        self.gives(True, is_settled, cluster, [[], []])
        self.gives([("pull", 0, 1, 0)], settle, cluster, [[0], []])

    def test_without_links_all_logs_are_settled(self):
        cluster = Cluster(Net(3, []), [0, 1, 2])
        logs = [[0, 1], [2], []]
        self.gives(True, is_settled, cluster, logs)
        self.gives([], settle, cluster, logs)
        self.gives(logs, settled_logs, cluster, logs)
        self.gives(0, pulls_left, cluster, logs)

    def test_on_a_net_that_is_not_strong(self):
        cluster = Cluster(Net(3, [(0, 1), (2, 1)]), [0, 1, 2])
        logs = [[0], [1], [2]]
        self.gives([("pull", 0, 1, 0), ("pull", 2, 1, 2)], settle, cluster, logs)
        self.gives([[0], [1, 0, 2], [2]], settled_logs, cluster, logs)

    def test_settled_logs_need_not_be_full(self):
        cluster = Cluster(Net.line(2), [0, 1, 1])
        self.gives(True, is_settled, cluster, [[0, 2], [2, 0]])
        self.gives(True, is_settled, Cluster(Net.line(2), []), [[], []])

    def test_every_net_of_3_replicas(self):
        for net in all_nets(3):
            cluster = Cluster(net, [0, 1, 2])
            for logs in ([[0], [1], [2]], [[], [2, 0], []], [[0, 1], [1, 0], [2]]):
                self.check(cluster, logs)

    def test_larger_logs(self):
        for chance in chances(150, "settle"):
            cluster = some_cluster(chance)
            self.check(cluster, some_logs(chance, cluster))

    def test_every_sequence_of_pulls_has_the_same_number(self):
        for chance in chances(150, "any order"):
            cluster = some_cluster(chance, 5)
            start = logs = some_logs(chance, cluster)
            number = 0
            while pulls(cluster, logs):
                logs = after_action(cluster, logs, chance.choice(pulls(cluster, logs)))
                number += 1
            self.assertEqual(pulls_left(cluster, start), number)
            self.assertEqual([set(log) for log in settled_logs(cluster, start)], [set(log) for log in logs])

    def test_the_largest_cluster(self):
        for net in (Net.line(24), Net.ring(24), Net.complete(24)):
            cluster = Cluster(net, [(7 * entry) % 24 for entry in range(60)])
            logs = [cluster.entries_at(replica) for replica in range(24)]
            self.assertEqual(pulls_left(cluster, logs), 60 * 23)
            later = settled_logs(cluster, logs)
            self.assertTrue(all(sorted(log) == list(range(60)) for log in later))
            self.assertTrue(is_settled(cluster, later))

    def test_invalid_logs(self):
        cluster = Cluster(Net.line(2), [0, 1])
        for function in (is_settled, settle, settled_logs, pulls_left):
            self.fails("InvalidLogs(replica=None)", function, cluster, [[]])
            self.fails("InvalidLogs(replica=1)", function, cluster, [[0], [2]])
            self.fails("InvalidLogs(replica=0)", function, cluster, [[-1], [0, 0]])


if __name__ == "__main__":
    unittest.main()
