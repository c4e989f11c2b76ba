"""First entries: point 27, and the heading pullstore/firsts.py."""

import math
import unittest

from helpers import (
    NO_TREES, NOT_STRONG, PromiseCase, chances, every_choice, full_logs, reached_from, some_tree, strong_worlds,
    tree_worlds, wrong_choices,
)
from pullstore.audit import reachable
from pullstore.cluster import Cluster
from pullstore.finish import finished_logs
from pullstore.firsts import count_firsts, first_entries, firsts_fault, logs_with_firsts
from pullstore.net import Net


def naive_fault(cluster, choices):
    """The least replica that point 27 misses, word by word."""
    for x, choice in enumerate(choices):
        same = [y for y, own in enumerate(choices) if own == choice]
        links = [link for link in cluster.net.links if link[0] in same and link[1] in same]
        home = cluster.homes[choice]
        if home not in same or x not in reached_from(links, [home]):
            return x
    return None


class FirstEntriesTest(PromiseCase):
    def test_the_beginning_of_each_log(self):
        cluster = Cluster(Net.line(3), [0, 2, 2])
        self.gives([1, 0, 2], first_entries, cluster, [[1, 0], [0], [2, 1, 0]])
        self.gives([None, 2, None], first_entries, cluster, [[], [2, 1], []])
        self.gives([None, None], first_entries, Cluster(Net.line(2), []), [[], []])
        # The net may be of any kind, and the logs need not be reachable.
        self.gives([1, 0], first_entries, Cluster(Net(2, []), [0, 0]), [[1], [0, 1]])

    def test_invalid_logs(self):
        cluster = Cluster(Net.line(2), [0, 1])
        self.fails("InvalidLogs(replica=1)", first_entries, cluster, [[], [2]])
        self.fails("InvalidLogs(replica=0)", first_entries, cluster, [[0, 0], [2]])
        self.fails("InvalidLogs(replica=None)", first_entries, cluster, [[]])


class FirstsFaultTest(PromiseCase):
    def test_each_choice_comes_from_its_home(self):
        cluster = Cluster(Net.ring(4), [0, 2, 0])
        self.gives(None, firsts_fault, cluster, [0, 0, 1, 1])
        self.gives(None, firsts_fault, cluster, [2, 2, 2, 2])
        self.gives(None, firsts_fault, cluster, [2, 2, 1, 1])
        self.gives(None, firsts_fault, cluster, [1, 1, 1, 1])

    def test_the_least_replica_that_is_not_reached(self):
        cluster = Cluster(Net.ring(4), [0, 2, 0])
        # Links are followed in their direction: 3 reads from 2, and 1 from 0.
        self.gives(3, firsts_fault, cluster, [0, 0, 1, 0])
        self.gives(1, firsts_fault, cluster, [0, 1, 1, 1])
        self.gives(1, firsts_fault, cluster, [0, 2, 1, 1])
        # The home must make the choice, too.
        self.gives(0, firsts_fault, cluster, [1, 1, 0, 0])
        self.gives(1, firsts_fault, cluster, [2, 0, 0, 2])
        self.gives(2, firsts_fault, cluster, [0, 0, 2, 1])

    def test_one_replica(self):
        cluster = Cluster(Net(1, []), [0, 0])
        for choices in ([0], [1]):
            self.gives(None, firsts_fault, cluster, choices)

    def test_errors_in_their_order(self):
        for function in (firsts_fault, logs_with_firsts):
            for net in NOT_STRONG:
                cluster = Cluster(net, [0, 0])
                for choices in ([0] * net.count, [], [7] * net.count, [1] + [0] * (net.count - 1)):
                    self.fails("NotStrong()", function, cluster, choices)
            cluster = Cluster(Net.ring(4), [0, 1, 2])
            for choices, error in wrong_choices(4, 3):
                self.fails(error, function, cluster, choices)
            self.fails("InvalidChoices(replica=3)", function, cluster, [1, 0, 2, 3])
            self.fails("InvalidChoices(replica=None)", function, cluster, [1, 0, 2])
            self.fails("InvalidChoices(replica=0)", function, Cluster(Net.line(2), []), [0, 0])
            self.fails("InvalidChoices(replica=None)", function, Cluster(Net.line(2), []), [])

    def test_against_a_search_through_all_full_logs(self):
        trees = tree_worlds([(4, 2)])
        for cluster in [*strong_worlds([(1, 2), (2, 2), (2, 3), (3, 2), (3, 3)]), *trees]:
            full = full_logs(cluster)
            firsts = {repr([log[0] for log in logs]) for logs in full}
            known = {repr(logs) for logs in full}
            for choices in every_choice(cluster):
                fault = naive_fault(cluster, choices)
                self.gives(fault, firsts_fault, cluster, choices)
                self.assertEqual(fault is None, repr(choices) in firsts)
                if fault is None:
                    logs = self.ask(logs_with_firsts, cluster, choices)
                    self.assertIn(repr(logs), known)
                    self.assertEqual([log[0] for log in logs], choices)
                    self.assertEqual(logs, finished_logs(cluster, [[choice] for choice in choices]))
                else:
                    self.fails(f"ImpossibleChoices(fault={fault})", logs_with_firsts, cluster, choices)


class LogsWithFirstsTest(PromiseCase):
    def test_they_are_finished_from_the_choices_alone(self):
        cluster = Cluster(Net.ring(3), [0, 2, 1])
        self.gives([[0, 1, 2], [0, 2, 1], [1, 0, 2]], logs_with_firsts, cluster, [0, 0, 1])
        self.gives([[1, 0, 2], [1, 2, 0], [1, 2, 0]], logs_with_firsts, cluster, [1, 1, 1])

    def test_impossible_choices(self):
        cluster = Cluster(Net.ring(3), [0, 2])
        self.fails("ImpossibleChoices(fault=0)", logs_with_firsts, cluster, [1, 1, 0])
        self.fails("ImpossibleChoices(fault=1)", logs_with_firsts, cluster, [0, 1, 1])
        self.fails("ImpossibleChoices(fault=2)", logs_with_firsts, Cluster(Net.ring(3), [0, 1]), [0, 1, 0])


class CountTest(PromiseCase):
    def test_parts_of_a_tree(self):
        # Each entry alone, and the two cuts of the line.
        self.gives(4, count_firsts, Cluster(Net.line(3), [0, 2]))
        self.gives(2, count_firsts, Cluster(Net.line(3), [1, 1]))
        self.gives(8, count_firsts, Cluster(Net.line(3), [0, 1, 2]))
        self.gives(4, count_firsts, Cluster(Net.star(3), [1, 2]))

    def test_no_entries_one_entry_and_one_replica(self):
        self.gives(0, count_firsts, Cluster(Net.line(3), []))
        self.gives(0, count_firsts, Cluster(Net.line(1), []))
        self.gives(1, count_firsts, Cluster(Net.line(3), [1]))
        self.gives(3, count_firsts, Cluster(Net.line(1), [0, 0, 0]))

    def test_the_net_comes_first(self):
        for net in NO_TREES:
            for homes in ([], [0], [0, 0]):
                self.fails("NotTree()", count_firsts, Cluster(net, homes))

    def test_against_a_search_through_all_full_logs(self):
        for cluster in tree_worlds([(1, 3), (2, 3), (3, 3), (4, 2)]):
            firsts = {repr([log[0] for log in logs]) for logs in full_logs(cluster)}
            self.gives(len(firsts), count_firsts, cluster)

    def test_larger_trees(self):
        for chance in chances(40, "count firsts"):
            cluster = some_tree(chance, 6, 3)
            expected = sum(1 for choices in every_choice(cluster) if naive_fault(cluster, choices) is None)
            self.gives(expected, count_firsts, cluster)

    def test_the_largest_cluster(self):
        # One entry at each replica: each part of a line is named in as many ways as it has replicas.
        # The numbers for lines are every other one of the Fibonacci numbers.
        numbers = [1, 1]
        while len(numbers) < 48:
            numbers.append(numbers[-1] + numbers[-2])
        for count in (1, 2, 3, 24):
            self.gives(numbers[2 * count - 1], count_firsts, Cluster(Net.line(count), list(range(count))))
        # On a star, the part in the middle has any of the others.
        expected = sum(math.comb(23, many) * (many + 1) for many in range(24))
        self.gives(expected, count_firsts, Cluster(Net.star(24), list(range(24))))
        homes = [(7 * entry) % 24 for entry in range(60)]
        for net in (Net.line(24), Net.ring(24), Net.complete(24)):
            cluster = Cluster(net, homes)
            choices = [homes.index(0)] * 12 + [homes.index(12)] * 12
            logs = logs_with_firsts(cluster, choices)
            self.assertEqual([log[0] for log in logs], choices)
            self.assertTrue(reachable(cluster, [[] for _ in range(24)], logs))


if __name__ == "__main__":
    unittest.main()
