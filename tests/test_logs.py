"""Logs: points 6, 7 and 21, and the heading pullstore/logs.py."""

import itertools
import unittest

from helpers import (
    HUGE, NOWHERE, PromiseCase, all_reached, chances, cut_logs, some_cluster, some_logs, some_run,
)
from pullstore.cluster import Cluster
from pullstore.logs import (
    ahead_of, check_logs, empty_logs, holders_of, is_full, is_prefix, missing_pairs, restrict, unwritten,
)
from pullstore.net import Net

# For a cluster of 3 replicas and 3 entries: what is wrong, and the replica that is told.
SPOILT = [
    ([], None),
    ([[0], [1]], None),
    ([[0], [1], [2], []], None),
    ([[0], [7, 7], [], []], None),
    ([[3], [], []], 0),
    ([[0], [1, -1], []], 1),
    ([[0], [], [HUGE]], 2),
    ([[0], [], [-HUGE]], 2),
    ([[0, 0], [], []], 0),
    ([[0, 1], [2, 1, 2], [3]], 1),
    ([[0, 1], [2, 1], [1, 0, 2, 1]], 2),
    ([[0, 1], [2, 1, 9], [0, 0]], 1),
]
FINE = [[0, 1], [2], []]


class CheckTest(PromiseCase):
    def setUp(self):
        self.cluster = Cluster(Net.line(3), [0, 2, 2])

    def test_a_copy(self):
        logs = [[2, 0, 1], [], [1]]
        self.gives([[2, 0, 1], [], [1]], check_logs, self.cluster, logs)
        copied = check_logs(self.cluster, logs)
        copied[0].append(9)
        copied[1] = [5]
        self.assertEqual(logs, [[2, 0, 1], [], [1]])

    def test_invalid_logs(self):
        for logs, replica in SPOILT:
            self.fails(f"InvalidLogs(replica={replica})", check_logs, self.cluster, logs)

    def test_one_list_that_stands_in_the_logs_several_times(self):
        log = [1, 2]
        self.gives([[1, 2], [1, 2], [1, 2]], check_logs, self.cluster, [log, log, log])

    def test_a_cluster_without_entries(self):
        cluster = Cluster(Net.line(2), [])
        self.gives([[], []], check_logs, cluster, [[], []])
        self.fails("InvalidLogs(replica=1)", check_logs, cluster, [[], [0]])
        self.fails("InvalidLogs(replica=None)", check_logs, cluster, [[]])

    def test_the_largest_logs(self):
        cluster = Cluster(Net.line(24), [0] * 60)
        logs = [list(range(60)) for _ in range(24)]
        self.gives(logs, check_logs, cluster, logs)
        logs[23][0] = 60
        self.fails("InvalidLogs(replica=23)", check_logs, cluster, logs)

    def test_every_function_that_takes_logs_checks_them_first(self):
        for logs, replica in SPOILT:
            error = f"InvalidLogs(replica={replica})"
            self.fails(error, holders_of, self.cluster, logs, 0)
            self.fails(error, holders_of, self.cluster, logs, 9)
            self.fails(error, ahead_of, self.cluster, logs, 0, 0)
            self.fails(error, ahead_of, self.cluster, logs, 9, 9)
            self.fails(error, unwritten, self.cluster, logs)
            self.fails(error, is_full, self.cluster, logs)
            self.fails(error, is_prefix, self.cluster, logs, FINE)
            self.fails(error, is_prefix, self.cluster, FINE, logs)
            self.fails(error, missing_pairs, self.cluster, logs, FINE)
            self.fails(error, missing_pairs, self.cluster, FINE, logs)
            self.fails(error, restrict, self.cluster, logs)
            self.fails(error, restrict, self.cluster, logs, 9)

    def test_the_start_is_checked_before_the_goal(self):
        for function in (is_prefix, missing_pairs):
            self.fails("InvalidLogs(replica=2)", function, self.cluster, [[], [], [7]], [[7], [], []])
            self.fails("InvalidLogs(replica=0)", function, self.cluster, [[0], [], []], [[7], [], []])


class SimpleTest(PromiseCase):
    def setUp(self):
        self.cluster = Cluster(Net.line(3), [0, 2, 2])

    def test_empty_logs(self):
        self.gives([[], [], []], empty_logs, self.cluster)
        self.gives([[]], empty_logs, Cluster(Net(1, []), []))
        made = empty_logs(self.cluster)
        made[0].append(1)
        self.assertEqual(made, [[1], [], []])

    def test_holders_of(self):
        logs = [[2, 0], [0], [1, 2]]
        self.gives([0, 1], holders_of, self.cluster, logs, 0)
        self.gives([2], holders_of, self.cluster, logs, 1)
        self.gives([0, 2], holders_of, self.cluster, logs, 2)
        self.gives([], holders_of, self.cluster, [[], [], []], 2)
        for wrong in [3, *NOWHERE]:
            self.fails(f"UnknownEntry(entry={wrong})", holders_of, self.cluster, logs, wrong)

    def test_ahead_of(self):
        logs = [[2, 0, 1], [0], [1, 2]]
        self.gives([], ahead_of, self.cluster, logs, 0, 2)
        self.gives([2], ahead_of, self.cluster, logs, 0, 0)
        self.gives([2, 0], ahead_of, self.cluster, logs, 0, 1)
        self.gives([1], ahead_of, self.cluster, logs, 2, 2)

    def test_errors_of_ahead_of_in_their_order(self):
        logs = [[2, 0], [0], [1, 2]]
        for wrong in [3, *NOWHERE]:
            self.fails(f"UnknownReplica(replica={wrong})", ahead_of, self.cluster, logs, wrong, 0)
            self.fails(f"UnknownReplica(replica={wrong})", ahead_of, self.cluster, logs, wrong, wrong)
            self.fails(f"UnknownEntry(entry={wrong})", ahead_of, self.cluster, logs, 1, wrong)
        self.fails("NotHeld(replica=1, entry=2)", ahead_of, self.cluster, logs, 1, 2)
        self.fails("NotHeld(replica=0, entry=1)", ahead_of, self.cluster, [[], [], []], 0, 1)

    def test_unwritten(self):
        self.gives([0, 1, 2], unwritten, self.cluster, [[], [], []])
        self.gives([1], unwritten, self.cluster, [[2], [0], []])
        self.gives([0], unwritten, self.cluster, [[], [2, 1], [1]])
        self.gives([], unwritten, self.cluster, [[2, 1, 0], [], []])
        self.gives([], unwritten, Cluster(Net.line(2), []), [[], []])

    def test_is_full(self):
        self.gives(True, is_full, self.cluster, [[0, 1, 2], [2, 1, 0], [1, 2, 0]])
        self.gives(False, is_full, self.cluster, [[0, 1, 2], [2, 1, 0], [1, 2]])
        self.gives(False, is_full, self.cluster, [[], [2, 1, 0], [1, 2, 0]])
        self.gives(False, is_full, self.cluster, [[], [], []])
        self.gives(True, is_full, Cluster(Net.line(2), []), [[], []])

    def test_against_the_words_of_the_document(self):
        for chance in chances(150, "logs"):
            cluster = some_cluster(chance)
            logs = some_logs(chance, cluster)
            entries = range(cluster.size)
            self.gives(logs, check_logs, cluster, logs)
            holders = [[x for x, log in enumerate(logs) if entry in log] for entry in entries]
            for entry in entries:
                self.gives(holders[entry], holders_of, cluster, logs, entry)
            self.gives([entry for entry in entries if not holders[entry]], unwritten, cluster, logs)
            self.gives(all(set(log) == set(entries) for log in logs), is_full, cluster, logs)
            for replica, log in enumerate(logs):
                for index, entry in enumerate(log):
                    self.gives(log[:index], ahead_of, cluster, logs, replica, entry)


class PrefixTest(PromiseCase):
    def setUp(self):
        self.cluster = Cluster(Net.line(3), [0, 2, 2])

    def test_prefixes(self):
        goal = [[0, 1], [0, 1, 2], [1, 2]]
        self.gives(True, is_prefix, self.cluster, [[], [], []], goal)
        self.gives(True, is_prefix, self.cluster, goal, goal)
        self.gives(True, is_prefix, self.cluster, [[0], [0, 1, 2], []], goal)
        self.gives(False, is_prefix, self.cluster, [[1], [], []], goal)
        self.gives(False, is_prefix, self.cluster, [[], [0, 2], []], goal)
        self.gives(False, is_prefix, self.cluster, [[], [], [1, 2, 0]], goal)
        self.gives(False, is_prefix, self.cluster, goal, [[0], [0, 1, 2], [1, 2]])

    def test_missing_pairs_in_the_order_of_the_goal(self):
        goal = [[0, 1], [2, 1, 0], [1, 2]]
        expected = [(0, 0), (0, 1), (1, 2), (1, 1), (1, 0), (2, 1), (2, 2)]
        self.gives(expected, missing_pairs, self.cluster, [[], [], []], goal)
        self.gives([], missing_pairs, self.cluster, goal, goal)
        self.gives([(0, 1), (1, 0), (2, 1), (2, 2)], missing_pairs, self.cluster, [[0], [2, 1], []], goal)

    def test_not_prefix_names_the_least_replica(self):
        goal = [[0, 1], [0, 1, 2], [1, 2]]
        self.fails("NotPrefix(replica=0)", missing_pairs, self.cluster, [[1], [2], [2]], goal)
        self.fails("NotPrefix(replica=1)", missing_pairs, self.cluster, [[0], [2], [2]], goal)
        self.fails("NotPrefix(replica=2)", missing_pairs, self.cluster, [[0], [0], [1, 2, 0]], goal)
        self.fails("NotPrefix(replica=2)", missing_pairs, self.cluster, goal, [[0, 1], [0, 1, 2], []])

    def test_against_the_words_of_the_document(self):
        for chance in chances(300, "prefix"):
            cluster = some_cluster(chance, 4)
            goal = some_logs(chance, cluster)
            start = cut_logs(chance, goal)
            if chance.random() < 0.5:
                start[chance.randrange(len(start))] = some_logs(chance, cluster)[0]
            wrong = [x for x, log in enumerate(start) if goal[x][:len(log)] != log]
            self.gives(not wrong, is_prefix, cluster, start, goal)
            if wrong:
                self.fails(f"NotPrefix(replica={wrong[0]})", missing_pairs, cluster, start, goal)
            else:
                pairs = [(x, entry) for x, log in enumerate(goal) for entry in log if entry not in start[x]]
                self.gives(pairs, missing_pairs, cluster, start, goal)


class RestrictTest(PromiseCase):
    def setUp(self):
        self.cluster = Cluster(Net.line(3), [0, 2, 2])
        self.logs = [[0, 1], [2, 1, 0], [1, 2]]

    def test_the_kept_entries_keep_their_order(self):
        self.gives([[0], [2, 0], [2]], restrict, self.cluster, self.logs, 2, 0)
        self.gives([[0], [2, 0], [2]], restrict, self.cluster, self.logs, 0, 2)
        self.gives([[1], [1], [1]], restrict, self.cluster, self.logs, 1)
        self.gives(self.logs, restrict, self.cluster, self.logs, 0, 1, 2)

    def test_in_any_order_and_several_times(self):
        for kept in itertools.permutations([1, 2, 2, 1]):
            self.gives([[1], [2, 1], [1, 2]], restrict, self.cluster, self.logs, *kept)

    def test_without_entries_every_log_becomes_empty(self):
        self.gives([[], [], []], restrict, self.cluster, self.logs)

    def test_entries_that_nobody_holds(self):
        self.gives([[], [], []], restrict, self.cluster, [[0], [0], []], 1, 2)

    def test_the_first_integer_that_is_no_entry(self):
        for wrong in [3, *NOWHERE]:
            self.fails(f"UnknownEntry(entry={wrong})", restrict, self.cluster, self.logs, wrong)
            self.fails(f"UnknownEntry(entry={wrong})", restrict, self.cluster, self.logs, 0, wrong, 77, 1)
        self.fails("UnknownEntry(entry=77)", restrict, self.cluster, self.logs, 77, 3, -1)
        self.fails("UnknownEntry(entry=0)", restrict, Cluster(Net.line(1), []), [[]], 0)

    def test_against_the_words_of_the_document(self):
        for chance in chances(100, "restrict"):
            cluster = some_cluster(chance)
            logs = some_logs(chance, cluster)
            kept = [entry for entry in range(cluster.size) if chance.random() < 0.5]
            expected = [[entry for entry in log if entry in kept] for log in logs]
            self.gives(expected, restrict, cluster, logs, *kept[::-1])

    def test_a_restriction_of_reachable_logs_is_reachable(self):
        for net in (Net.line(2), Net(3, [(0, 1), (1, 2)]), Net.ring(3)):
            cluster = Cluster(net, [0, net.count - 1, 0])
            reached = all_reached(cluster, empty_logs(cluster))
            for chance in chances(60, f"reachable {net.links}"):
                _, logs = some_run(chance, cluster, empty_logs(cluster), chance.randint(0, 9))
                for kept in ([], [0], [1], [2], [0, 1], [0, 2], [1, 2], [0, 1, 2]):
                    self.assertIn(repr(restrict(cluster, logs, *kept)), reached)


if __name__ == "__main__":
    unittest.main()
