"""What one log tells: point 23, and the heading pullstore/infer.py."""

import itertools
import unittest

from helpers import (
    HUGE, NO_TREES, NOWHERE, PromiseCase, chances, path_of, reached_logs, some_tree, tree_worlds,
)
from pullstore.audit import reachable
from pullstore.cluster import Cluster
from pullstore.infer import fewest_actions, least_logs
from pullstore.net import Net


def naive_least(cluster, replica, log):
    """The least logs as point 23 says, word by word."""
    everyone = range(cluster.net.count)
    return [[entry for entry in log if x in path_of(cluster.net, cluster.homes[entry], replica)] for x in everyone]


def naive_fewest(cluster, replica, log):
    return sum(len(path_of(cluster.net, cluster.homes[entry], replica)) for entry in log)


class InferTest(PromiseCase):
    def check(self, cluster, replica, log, logs, many):
        self.gives(logs, least_logs, cluster, replica, log)
        self.gives(many, fewest_actions, cluster, replica, log)

    def test_each_entry_is_on_the_path_from_its_home(self):
        cluster = Cluster(Net.line(4), [0, 3, 1, 3])
        self.check(cluster, 0, [1, 2, 0], [[1, 2, 0], [1, 2], [1], [1]], 7)
        self.check(cluster, 2, [3, 0, 1], [[0], [0], [3, 0, 1], [3, 1]], 7)
        self.check(cluster, 3, [1, 3], [[], [], [], [1, 3]], 2)
        self.check(cluster, 1, [0], [[0], [0], [], []], 2)

    def test_the_order_is_that_of_the_log(self):
        cluster = Cluster(Net.star(3), [1, 1, 2])
        for log in itertools.permutations([0, 1, 2]):
            log = list(log)
            at_home = [entry for entry in log if entry < 2]
            self.check(cluster, 0, log, [log, at_home, [2]], 6)
            self.check(cluster, 2, log, [at_home, at_home, log], 7)

    def test_the_empty_log(self):
        for cluster in (Cluster(Net.line(3), [0, 2]), Cluster(Net.line(3), [])):
            for replica in range(3):
                self.check(cluster, replica, [], [[], [], []], 0)

    def test_one_replica(self):
        self.check(Cluster(Net.line(1), [0, 0]), 0, [1, 0], [[1, 0]], 2)

    def test_the_net_comes_first(self):
        for net in NO_TREES:
            cluster = Cluster(net, [0, 0])
            for replica, log in [(0, [0]), (0, []), (0, [0, 0]), (9, [0]), (-1, [7]), (9, [7, 7])]:
                for function in (least_logs, fewest_actions):
                    self.fails("NotTree()", function, cluster, replica, log)

    def test_the_replica_comes_before_the_log(self):
        cluster = Cluster(Net.line(3), [0, 2])
        for function in (least_logs, fewest_actions):
            for wrong in [3, -3, *NOWHERE]:
                for log in ([], [0, 1], [0, 0], [2], [HUGE]):
                    self.fails(f"UnknownReplica(replica={wrong})", function, cluster, wrong, log)

    def test_lists_that_are_no_log(self):
        cluster = Cluster(Net.line(3), [0, 2])
        for function in (least_logs, fewest_actions):
            for replica in range(3):
                error = f"InvalidLogs(replica={replica})"
                for wrong in [2, -2, *NOWHERE]:
                    self.fails(error, function, cluster, replica, [wrong])
                    self.fails(error, function, cluster, replica, [0, wrong, 1])
                for log in ([0, 0], [1, 0, 1], [0, 1, 0]):
                    self.fails(error, function, cluster, replica, log)
            self.fails("InvalidLogs(replica=1)", function, Cluster(Net.line(2), []), 1, [0])

    def test_every_list_of_entries_against_a_search_through_all_runs(self):
        for cluster in tree_worlds([(1, 3), (2, 3), (3, 2)]):
            size = len(cluster.homes)
            reached = reached_logs(cluster, [[] for _ in range(cluster.net.count)])
            lists = [list(log) for many in range(size + 1) for log in itertools.permutations(range(size), many)]
            for replica in range(cluster.net.count):
                for log in lists:
                    self.compare(cluster, reached, replica, log)

    def compare(self, cluster, reached, replica, log):
        """The least logs against all logs that some run leads to and in which the replica has this log."""
        fine = [logs for logs in reached if logs[replica] == log]
        self.assertTrue(fine)
        least = self.ask(least_logs, cluster, replica, log)
        self.assertEqual(least, naive_least(cluster, replica, log))
        self.assertIn(least, fine)
        for logs in fine:
            for one, own in zip(logs, least):
                self.assertEqual([entry for entry in one if entry in own], own)
        for x, own in enumerate(least):
            everywhere = [entry for entry in range(len(cluster.homes)) if all(entry in logs[x] for logs in fine)]
            self.assertEqual(sorted(own), everywhere)
        self.gives(min(sum(map(len, logs)) for logs in fine), fewest_actions, cluster, replica, log)

    def test_larger_trees(self):
        for chance in chances(100, "infer"):
            cluster = some_tree(chance, 9, 6)
            replica = chance.randrange(cluster.net.count)
            log = chance.sample(range(6), chance.randint(0, 6))
            least = naive_least(cluster, replica, log)
            self.check(cluster, replica, log, least, naive_fewest(cluster, replica, log))
            self.assertTrue(reachable(cluster, [[] for _ in least], least))

    def test_the_largest_cluster(self):
        for net in (Net.line(24), Net.star(24)):
            cluster = Cluster(net, [(7 * entry) % 24 for entry in range(60)])
            log = list(range(60))[::-1]
            self.check(cluster, 5, log, naive_least(cluster, 5, log), naive_fewest(cluster, 5, log))


if __name__ == "__main__":
    unittest.main()
