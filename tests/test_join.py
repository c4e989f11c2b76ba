"""Joins: point 18, and the heading pullstore/join.py."""

import unittest

from helpers import PromiseCase, after_action, chances, possible, some_cluster, some_logs, some_run
from pullstore.audit import reachable
from pullstore.cluster import Cluster
from pullstore.join import join_logs
from pullstore.net import Net


def some_way(chance, cluster, start, goal):
    """Logs that some actions from the start lead to, all of which stay prefixes of the goal."""
    logs = start
    for _ in range(chance.randint(0, 8)):
        later = [after_action(cluster, logs, action) for action in possible(cluster, logs)]
        later = [one for one in later if all(log == goal[x][:len(log)] for x, log in enumerate(one))]
        if later:
            logs = chance.choice(later)
    return logs


class JoinTest(PromiseCase):
    def setUp(self):
        self.cluster = Cluster(Net.line(3), [0, 1, 2])

    def test_the_longer_log_at_each_replica(self):
        one = [[0, 1], [1], []]
        other = [[0], [1, 0, 2], [2]]
        expected = [[0, 1], [1, 0, 2], [2]]
        self.gives(expected, join_logs, self.cluster, one, other)
        self.gives(expected, join_logs, self.cluster, other, one)

    def test_equal_and_empty_logs(self):
        logs = [[0, 1], [], [2]]
        empty = [[], [], []]
        self.gives(logs, join_logs, self.cluster, logs, logs)
        self.gives(logs, join_logs, self.cluster, logs, [list(log) for log in logs])
        self.gives(logs, join_logs, self.cluster, logs, empty)
        self.gives(logs, join_logs, self.cluster, empty, logs)
        self.gives(empty, join_logs, self.cluster, empty, empty)
        self.gives([[], []], join_logs, Cluster(Net.line(2), []), [[], []], [[], []])

    def test_logs_that_no_run_leads_to(self):
        self.gives([[2], [0, 1], [1]], join_logs, self.cluster, [[2], [0], []], [[], [0, 1], [1]])

    def test_the_least_replica_whose_logs_are_apart(self):
        self.fails("Apart(replica=0)", join_logs, self.cluster, [[0], [], []], [[1], [], []])
        self.fails("Apart(replica=1)", join_logs, self.cluster, [[0], [1, 0], [2]], [[0, 1], [1, 2], [1]])
        self.fails("Apart(replica=2)", join_logs, self.cluster, [[0], [1], [2, 0, 1]], [[], [], [2, 1]])
        self.fails("Apart(replica=2)", join_logs, self.cluster, [[0], [1], [2, 1]], [[], [], [2, 0, 1]])
        self.fails("Apart(replica=1)", join_logs, self.cluster, [[], [0, 1], []], [[], [1, 0], []])

    def test_invalid_logs_come_first(self):
        self.fails("InvalidLogs(replica=2)", join_logs, self.cluster, [[0], [], [3]], [[1], [3], []])
        self.fails("InvalidLogs(replica=1)", join_logs, self.cluster, [[0], [], []], [[1], [1, 1], []])
        self.fails("InvalidLogs(replica=None)", join_logs, self.cluster, [[]], [[1], [3], []])
        self.fails("InvalidLogs(replica=None)", join_logs, self.cluster, [[0], [], []], [[1]])

    def test_against_the_words_of_the_document(self):
        seen = set()
        for chance in chances(300, "join"):
            cluster = some_cluster(chance, 3)
            one = some_logs(chance, cluster)
            other = some_logs(chance, cluster)
            for x in range(cluster.net.count):
                if chance.random() < 0.7:
                    other[x] = one[x][:chance.randint(0, len(one[x]))]
                if chance.random() < 0.5:
                    one[x], other[x] = other[x], one[x]
            apart = [x for x in range(cluster.net.count)
                     if one[x][:len(other[x])] != other[x] and other[x][:len(one[x])] != one[x]]
            seen.add(bool(apart))
            if apart:
                self.fails(f"Apart(replica={apart[0]})", join_logs, cluster, one, other)
            else:
                expected = [a if len(a) > len(b) else b for a, b in zip(one, other)]
                self.gives(expected, join_logs, cluster, one, other)
        self.assertEqual(len(seen), 2)

    def test_the_join_of_reachable_logs_is_reachable_from_both_and_from_their_start(self):
        apart = 0
        for chance in chances(300, "join of runs"):
            cluster = some_cluster(chance, 4)
            start = [[] for _ in range(cluster.net.count)]
            if chance.random() < 0.4:
                start = some_logs(chance, cluster)
            if chance.random() < 0.5:
                # Two runs that know nothing of each other; they may be comparable all the same.
                one = some_run(chance, cluster, start, chance.randint(0, 3))[1]
                other = some_run(chance, cluster, start, chance.randint(0, 3))[1]
            else:
                goal = some_run(chance, cluster, start, 15)[1]
                one = some_way(chance, cluster, start, goal)
                other = some_way(chance, cluster, start, goal)
            joined = self.ask(join_logs, cluster, one, other)
            if isinstance(joined, str):
                apart += 1
                continue
            for logs in (one, other, start):
                self.assertTrue(reachable(cluster, logs, joined))
        self.assertLess(apart, 200)


if __name__ == "__main__":
    unittest.main()
