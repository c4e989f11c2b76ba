"""Finishing logs: point 24, and the heading pullstore/finish.py."""

import unittest

from helpers import (
    NOT_STRONG, PromiseCase, after_action, all_nets, chances, naive_strong, possible, some_cluster, some_logs,
    some_run,
)
from pullstore.cluster import Cluster
from pullstore.finish import finish, finished_logs
from pullstore.net import Net


def naive_finish(cluster, logs):
    """Point 24, word by word: the trace and the logs after it."""
    trace = []
    held = {entry for log in logs for entry in log}
    for entry in range(len(cluster.homes)):
        if entry not in held:
            trace.append(("write", entry))
            logs = after_action(cluster, logs, trace[-1])
    while True:
        pulls = [action for action in possible(cluster, logs) if action[0] == "pull"]
        if not pulls:
            return trace, logs
        trace.append(pulls[0])
        logs = after_action(cluster, logs, pulls[0])


class FinishTest(PromiseCase):
    def check(self, cluster, logs):
        trace, later = naive_finish(cluster, logs)
        self.gives(trace, finish, cluster, logs)
        self.gives(later, finished_logs, cluster, logs)
        for x, log in enumerate(later):
            self.assertEqual(sorted(log), list(range(len(cluster.homes))))
            self.assertEqual(log[:len(logs[x])], logs[x])

    def test_from_empty_logs(self):
        cluster = Cluster(Net.line(3), [2, 0])
        expected = [("write", 0), ("write", 1), ("pull", 0, 1, 1), ("pull", 1, 2, 1), ("pull", 2, 1, 0),
                    ("pull", 1, 0, 0)]
        self.gives(expected, finish, cluster, [[], [], []])
        self.gives([[1, 0], [1, 0], [0, 1]], finished_logs, cluster, [[], [], []])

    def test_from_logs_of_some_run(self):
        cluster = Cluster(Net.line(3), [0, 2, 2])
        expected = [("write", 1), ("pull", 1, 2, 0), ("pull", 2, 1, 2), ("pull", 1, 0, 2), ("pull", 2, 1, 1),
                    ("pull", 1, 0, 1)]
        self.gives(expected, finish, cluster, [[0], [0], [2]])
        self.gives([[0, 2, 1], [0, 2, 1], [2, 1, 0]], finished_logs, cluster, [[0], [0], [2]])

    def test_from_any_logs(self):
        # Entry 0 is away from its home and is not written; the logs have different orders.
        cluster = Cluster(Net.ring(3), [0, 1, 2])
        expected = [("write", 1), ("pull", 1, 2, 0), ("pull", 1, 2, 1), ("pull", 2, 0, 2), ("pull", 0, 1, 2),
                    ("pull", 2, 0, 0), ("pull", 2, 0, 1)]
        self.gives(expected, finish, cluster, [[], [0], [2]])
        self.gives([[2, 0, 1], [0, 1, 2], [2, 0, 1]], finished_logs, cluster, [[], [0], [2]])

    def test_full_logs_are_finished(self):
        cluster = Cluster(Net.line(2), [0, 0])
        for logs in ([[0, 1], [0, 1]], [[1, 0], [0, 1]]):
            self.gives([], finish, cluster, logs)
            self.gives(logs, finished_logs, cluster, logs)
        self.gives([], finish, Cluster(Net.line(2), []), [[], []])
        self.gives([[], []], finished_logs, Cluster(Net.line(2), []), [[], []])

    def test_one_replica(self):
        cluster = Cluster(Net(1, []), [0, 0, 0])
        self.gives([("write", 0), ("write", 2)], finish, cluster, [[1]])
        self.gives([[1, 0, 2]], finished_logs, cluster, [[1]])

    def test_the_net_comes_before_the_logs(self):
        for net in NOT_STRONG:
            cluster = Cluster(net, [0, 1])
            empty = [[] for _ in range(net.count)]
            for logs in (empty, [[0, 1]] * net.count, [[7]] + empty[1:], []):
                self.fails("NotStrong()", finish, cluster, logs)
                self.fails("NotStrong()", finished_logs, cluster, logs)

    def test_invalid_logs(self):
        cluster = Cluster(Net.line(2), [0, 1])
        for function in (finish, finished_logs):
            self.fails("InvalidLogs(replica=1)", function, cluster, [[], [2]])
            self.fails("InvalidLogs(replica=0)", function, cluster, [[0, 0], [-1]])
            self.fails("InvalidLogs(replica=None)", function, cluster, [[]])

    def test_every_net_of_3_replicas(self):
        for net in all_nets(3):
            cluster = Cluster(net, [0, 1, 2])
            for logs in ([[], [], []], [[0], [1], [2]], [[], [2, 0], []], [[0, 1], [1, 0], [2]]):
                if naive_strong(net):
                    self.check(cluster, logs)
                else:
                    self.fails("NotStrong()", finish, cluster, logs)
                    self.fails("NotStrong()", finished_logs, cluster, logs)

    def test_against_the_words_of_the_document(self):
        for chance in chances(150, "finish"):
            cluster = some_cluster(chance)
            if not naive_strong(cluster.net):
                continue
            logs = [[] for _ in range(cluster.net.count)]
            self.check(cluster, logs)
            self.check(cluster, some_run(chance, cluster, logs, 8)[1])
            self.check(cluster, some_logs(chance, cluster))

    def test_the_largest_cluster(self):
        for net in (Net.line(24), Net.ring(24), Net.complete(24)):
            cluster = Cluster(net, [(7 * entry) % 24 for entry in range(60)])
            empty = [[] for _ in range(24)]
            self.assertEqual(len(finish(cluster, empty)), 24 * 60)
            self.assertTrue(all(sorted(log) == list(range(60)) for log in finished_logs(cluster, empty)))


if __name__ == "__main__":
    unittest.main()
