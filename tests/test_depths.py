"""Depths: points 32 to 34, and the heading pullstore/depths.py."""

import inspect
import itertools
import math
import time
import unittest

from helpers import (
    HUGE, NOT_STRONG, PromiseCase, chances, full_logs, naive_run, naive_strong, some_cluster, some_logs, strong_worlds,
)
from pullstore.cluster import Cluster
from pullstore.depths import count_ring, depth_run, depths_fault, depths_of, each_depths
from pullstore.net import Net


def naive_fault(homes, depths):
    """Point 32, word by word."""
    size = len(homes)
    if len(depths) != size:
        return ("length", len(depths))
    below = [entry for entry in range(size) if depths[entry] < 0]
    if below:
        return ("negative", min(below))
    pairs = itertools.combinations(range(size), 2)
    same = [(a, b) for a, b in pairs if homes[a] == homes[b] and depths[a] == depths[b]]
    if same:
        return ("same", *min(same))
    few = [j for j in range(1, size + 1) if sum(1 for depth in depths if depth < j) < j]
    if few:
        return ("few", min(few))
    return None


def all_without_fault(homes):
    """All lists of depths without fault, in ascending order."""
    every = itertools.product(range(len(homes)), repeat=len(homes))
    return [list(depths) for depths in every if naive_fault(homes, depths) is None]


def naive_depths(cluster, logs):
    """The depth of each entry in full logs."""
    return [logs[home].index(entry) for entry, home in enumerate(cluster.homes)]


class DepthsOfTest(PromiseCase):
    def test_the_number_of_entries_ahead_at_the_home(self):
        cluster = Cluster(Net.line(3), [0, 2, 2, 1])
        logs = [[3, 1, 0], [3], [1, 0, 3, 2]]
        self.gives([2, 0, 3, 0], depths_of, cluster, logs)
        self.gives([], depths_of, Cluster(Net.line(2), []), [[], []])
        self.gives([0, 0], depths_of, Cluster(Net(2, []), [0, 1]), [[0, 1], [1]])

    def test_the_least_entry_that_its_home_does_not_hold(self):
        cluster = Cluster(Net.line(3), [0, 2, 1])
        self.fails("NotHeld(replica=2, entry=1)", depths_of, cluster, [[0, 1, 2], [0, 1], [0, 2]])
        self.fails("NotHeld(replica=0, entry=0)", depths_of, cluster, [[], [], []])
        self.fails("NotHeld(replica=0, entry=0)", depths_of, cluster, [[1], [0], [1]])
        self.fails("NotHeld(replica=1, entry=2)", depths_of, cluster, [[0, 2], [], [2, 1]])

    def test_invalid_logs_first(self):
        cluster = Cluster(Net.line(2), [0, 1])
        self.fails("InvalidLogs(replica=1)", depths_of, cluster, [[], [2]])
        self.fails("InvalidLogs(replica=0)", depths_of, cluster, [[0, 0], [1]])
        self.fails("InvalidLogs(replica=None)", depths_of, cluster, [[0]])
        self.fails("InvalidLogs(replica=None)", depths_of, cluster, [[0], [1], []])

    def test_against_the_words_of_the_document(self):
        for chance in chances(60, "depths"):
            cluster = some_cluster(chance)
            logs = some_logs(chance, cluster)
            lost = [entry for entry, home in enumerate(cluster.homes) if entry not in logs[home]]
            if lost:
                error = f"NotHeld(replica={cluster.homes[lost[0]]}, entry={lost[0]})"
                self.fails(error, depths_of, cluster, logs)
            for x, log in enumerate(logs):
                log += [entry for entry in cluster.entries_at(x) if entry not in log]
            self.gives(naive_depths(cluster, logs), depths_of, cluster, logs)


class DepthsFaultTest(PromiseCase):
    def test_length(self):
        cluster = Cluster(Net.ring(2), [0, 1])
        for depths in ([], [0], [0, 0, 0], [-1], [5, 5, 5], [0] * 70):
            self.gives(("length", len(depths)), depths_fault, cluster, depths)
        self.gives(("length", 1), depths_fault, Cluster(Net.line(1), []), [0])

    def test_negative(self):
        cluster = Cluster(Net.ring(2), [0, 0, 1])
        self.gives(("negative", 0), depths_fault, cluster, [-1, -1, 0])
        self.gives(("negative", 1), depths_fault, cluster, [0, -1, -5])
        self.gives(("negative", 2), depths_fault, cluster, [5, 5, -HUGE])
        self.gives(("negative", 0), depths_fault, cluster, [-HUGE, 5, 5])

    def test_same(self):
        cluster = Cluster(Net.ring(2), [0, 1, 0, 1, 0])
        self.gives(("same", 0, 2), depths_fault, cluster, [3, 0, 3, 0, 3])
        self.gives(("same", 0, 4), depths_fault, cluster, [3, 0, 1, 0, 3])
        self.gives(("same", 1, 3), depths_fault, cluster, [2, 0, 3, 0, 1])
        self.gives(("same", 2, 4), depths_fault, cluster, [0, 1, 9, 2, 9])
        self.gives(("same", 1, 3), depths_fault, cluster, [0, HUGE, 1, HUGE, 2])
        # Entries with different homes may have the same depth.
        self.gives(None, depths_fault, cluster, [0, 0, 1, 1, 2])

    def test_few(self):
        cluster = Cluster(Net.ring(3), [0, 1, 2])
        self.gives(("few", 1), depths_fault, cluster, [1, 1, 1])
        self.gives(("few", 1), depths_fault, cluster, [2, 1, HUGE])
        self.gives(("few", 2), depths_fault, cluster, [0, 2, 2])
        self.gives(("few", 3), depths_fault, cluster, [0, 0, 3])
        self.gives(("few", 3), depths_fault, cluster, [0, 1, HUGE])
        self.gives(("few", 2), depths_fault, cluster, [0, 3, 4])
        self.gives(None, depths_fault, cluster, [0, 0, 2])
        self.gives(None, depths_fault, cluster, [2, 1, 0])
        self.gives(None, depths_fault, cluster, [0, 0, 0])

    def test_no_entries_and_one_replica(self):
        self.gives(None, depths_fault, Cluster(Net.line(2), []), [])
        cluster = Cluster(Net.line(1), [0, 0, 0])
        self.gives(None, depths_fault, cluster, [2, 0, 1])
        self.gives(("few", 3), depths_fault, cluster, [3, 0, 1])
        self.gives(("same", 0, 1), depths_fault, cluster, [1, 1, 1])

    def test_every_short_list(self):
        for size in range(4):
            for homes in itertools.product(range(2), repeat=size):
                cluster = Cluster(Net(2, []), list(homes))
                for many in range(max(0, size - 1), size + 2):
                    for depths in itertools.product(range(-1, size + 1), repeat=many):
                        expected = naive_fault(list(homes), list(depths))
                        self.assertEqual(repr(depths_fault(cluster, list(depths))), repr(expected))

    def test_longer_lists(self):
        for chance in chances(200, "faults"):
            cluster = some_cluster(chance)
            size = cluster.size
            depths = [chance.randint(0 if chance.random() < 0.9 else -1, size) for _ in range(size)]
            self.gives(naive_fault(cluster.homes, depths), depths_fault, cluster, depths)


class CountRingTest(PromiseCase):
    def test_the_product_of_point_34(self):
        # Five entries: 6 * 5 * 4 ways for three with one home and 6 * 5 for two with another, over 6.
        self.gives(120 * 30 // 6, count_ring, Cluster(Net.ring(3), [0, 0, 2, 2, 0]))
        self.gives(3, count_ring, Cluster(Net.ring(2), [0, 1]))
        self.gives(2, count_ring, Cluster(Net.ring(2), [1, 1]))
        self.gives(16, count_ring, Cluster(Net.ring(3), [2, 1, 0]))

    def test_no_entries_and_one_entry(self):
        for net in (Net.ring(2), Net(1, []), Net.line(5)):
            self.gives(1, count_ring, Cluster(net, []))
            self.gives(1, count_ring, Cluster(net, [0]))

    def test_the_net_may_be_of_any_kind(self):
        for net in (Net(3, []), Net.line(3), Net.complete(3), Net(3, [(0, 1)])):
            self.gives(16, count_ring, Cluster(net, [2, 1, 0]))
            self.gives(6, count_ring, Cluster(net, [1, 1, 1]))

    def test_it_is_exact_for_60_entries(self):
        self.gives(math.factorial(60), count_ring, Cluster(Net.ring(2), [1] * 60))
        self.gives(math.perm(61, 30) ** 2 // 61, count_ring, Cluster(Net.ring(2), [0, 1] * 30))
        spread = Cluster(Net.ring(24), [entry % 24 for entry in range(60)])
        expected = (61 * 60 * 59) ** 12 * (61 * 60) ** 12 // 61
        self.gives(expected, count_ring, spread)
        self.assertGreater(expected, 10 ** 100)

    def test_it_counts_the_lists_without_fault(self):
        for size in range(5):
            for homes in itertools.product(range(3), repeat=size):
                expected = len(all_without_fault(homes))
                self.assertEqual(count_ring(Cluster(Net.ring(3), list(homes))), expected)


class EachDepthsTest(PromiseCase):
    def test_ascending_order(self):
        self.gives([[0, 0], [0, 1], [1, 0]], each_depths, Cluster(Net.ring(2), [0, 1]))
        self.gives([[0, 1], [1, 0]], each_depths, Cluster(Net.ring(2), [0, 0]))
        expected = [[0, 0, 1], [0, 0, 2], [0, 1, 0], [0, 1, 2], [0, 2, 0], [0, 2, 1], [1, 0, 1], [1, 0, 2], [1, 1, 0],
                    [1, 2, 0], [2, 0, 1], [2, 1, 0]]
        self.gives(expected, each_depths, Cluster(Net.ring(2), [0, 1, 1]))

    def test_no_entries(self):
        for net in (Net.ring(3), Net(1, []), Net(2, [])):
            self.gives([[]], each_depths, Cluster(net, []))
            self.gives([[0]], each_depths, Cluster(net, [0]))

    def test_it_is_a_generator_of_new_lists(self):
        found = each_depths(Cluster(Net.ring(2), [0, 1]))
        self.assertTrue(inspect.isgenerator(found))
        next(found).clear()
        self.assertEqual(next(found), [0, 1])
        self.assertEqual(next(found), [1, 0])
        with self.assertRaises(StopIteration):
            next(found)

    def test_all_lists_without_fault_for_any_net(self):
        nets = [Net(3, []), Net.ring(3), Net.line(3), Net(3, [(1, 0)])]
        for size in range(5):
            for number, homes in enumerate(itertools.product(range(3), repeat=size)):
                cluster = Cluster(nets[number % 4], list(homes))
                self.assertEqual(list(each_depths(cluster)), all_without_fault(homes))
        self.gives(all_without_fault([1, 0, 1, 1]), each_depths, Cluster(Net(2, []), [1, 0, 1, 1]))

    def test_there_are_as_many_as_point_34_says(self):
        for homes in ([0, 1, 0, 2, 1, 2], [0, 0, 0, 0, 0, 1], [2, 2, 1, 1, 1], [0, 1, 2, 3, 4, 5]):
            cluster = Cluster(Net.ring(6), homes)
            found = list(each_depths(cluster))
            self.assertEqual(len(found), count_ring(cluster))
            self.assertEqual(found, sorted(found))

    def test_each_next_list_comes_at_once_for_large_clusters(self):
        for homes in ([0] * 60, [entry % 24 for entry in range(60)], [entry // 30 for entry in range(60)],
                      [0] * 59 + [1], [1] + [0] * 59):
            cluster = Cluster(Net.ring(24), homes)
            before = []
            begun = time.monotonic()
            for depths in itertools.islice(each_depths(cluster), 1000):
                self.assertIsNone(naive_fault(homes, depths))
                self.assertLess(before, depths)
                before = depths
            self.assertLess(time.monotonic() - begun, 60)

    def test_no_list_is_left_out_for_large_clusters(self):
        # All entries but six stand fast: the last six take what is left, in every order.
        homes = [0] * 60
        found = list(itertools.islice(each_depths(Cluster(Net.ring(2), homes)), 720))
        ends = [list(end) for end in itertools.permutations(range(54, 60))]
        self.assertEqual(found, [list(range(54)) + end for end in ends])


class DepthRunTest(PromiseCase):
    def check(self, cluster, depths):
        trace = self.ask(depth_run, cluster, depths)
        logs = naive_run(cluster, [[] for _ in range(cluster.net.count)], trace)
        self.assertIsNotNone(logs)
        for log in logs:
            self.assertEqual(sorted(log), list(range(cluster.size)))
        self.assertEqual(naive_depths(cluster, logs), depths)

    def test_a_run_to_full_logs_with_these_depths(self):
        cluster = Cluster(Net.line(2), [0, 1])
        self.check(cluster, [0, 0])
        self.check(cluster, [0, 1])
        self.check(cluster, [1, 0])
        self.check(Cluster(Net.ring(4), [2, 0, 2]), [2, 0, 1])

    def test_no_entries_and_one_replica(self):
        self.gives([], depth_run, Cluster(Net.ring(2), []), [])
        self.gives([("write", 1), ("write", 2), ("write", 0)], depth_run, Cluster(Net(1, []), [0, 0, 0]), [2, 0, 1])

    def test_all_depths_on_all_small_strong_nets(self):
        for cluster in strong_worlds([(1, 3), (2, 3), (3, 2), (3, 3)]):
            for depths in all_without_fault(cluster.homes):
                trace = depth_run(cluster, depths)
                logs = naive_run(cluster, [[] for _ in range(cluster.net.count)], trace)
                self.assertEqual([sorted(log) for log in logs], [list(range(cluster.size))] * cluster.net.count)
                self.assertEqual(naive_depths(cluster, logs), depths)

    def test_larger_strong_nets(self):
        for chance in chances(60, "depth runs"):
            cluster = some_cluster(chance, 5)
            if naive_strong(cluster.net):
                self.check(cluster, chance.choice(all_without_fault(cluster.homes)))

    def test_errors_in_their_order(self):
        for net in NOT_STRONG:
            cluster = Cluster(net, [0, 0])
            for depths in ([], [0, 0], [0, 1], [-1, 5]):
                self.fails("NotStrong()", depth_run, cluster, depths)
        cluster = Cluster(Net.ring(3), [0, 1, 0])
        for depths in ([], [0, 1], [0, -1, 0], [-1, 0, -1], [1, 0, 1], [1, 1, 2], [0, 0, 3], [0, 2, 3], [0, 0, HUGE]):
            error = f"InvalidDepths(fault={naive_fault([0, 1, 0], depths)!r})"
            self.fails(error, depth_run, cluster, depths)

    def test_which_depths_are_possible_by_a_search_through_all_runs(self):
        for cluster in strong_worlds([(1, 3), (2, 2), (2, 3), (3, 2)]):
            found = {repr(naive_depths(cluster, logs)) for logs in full_logs(cluster)}
            self.assertEqual(found, {repr(depths) for depths in all_without_fault(cluster.homes)})

    def test_on_a_ring_each_list_belongs_to_one_list_of_logs(self):
        for count, size in [(2, 2), (2, 3), (3, 2), (3, 3), (4, 2)]:
            for homes in itertools.product(range(count), repeat=size):
                cluster = Cluster(Net.ring(count), list(homes))
                full = full_logs(cluster)
                self.assertEqual(len(full), count_ring(cluster))
                found = sorted(naive_depths(cluster, logs) for logs in full)
                self.assertEqual(found, all_without_fault(homes))

    def test_the_largest_clusters(self):
        homes = [(7 * entry) % 24 for entry in range(60)]
        nets = [Net.ring(24), Net.line(24), Net.star(24), Net.complete(24)]
        for number, net in enumerate(nets):
            for one in (homes, [5] * 60, [entry // 30 for entry in range(60)]):
                cluster = Cluster(net, one)
                late = list(itertools.islice(each_depths(cluster), 40 * number + 1))[-1]
                for depths in (late, list(range(60)), list(reversed(range(60)))):
                    trace = depth_run(cluster, depths)
                    self.assertEqual(len(trace), 24 * 60)
                    self.check_last(cluster, depths, trace)

    def check_last(self, cluster, depths, trace):
        """Follows the trace by itself, faster than naive_run."""
        logs = [[] for _ in range(cluster.net.count)]
        for action in trace:
            if action[0] == "write":
                self.assertFalse(any(action[1] in log for log in logs))
                logs[cluster.homes[action[1]]].append(action[1])
            else:
                _, source, reader, entry = action
                self.assertTrue(cluster.net.has_link(source, reader))
                self.assertEqual(next(one for one in logs[source] if one not in logs[reader]), entry)
                logs[reader].append(entry)
        self.assertEqual(naive_depths(cluster, logs), depths)
        self.assertEqual({len(log) for log in logs}, {cluster.size})


if __name__ == "__main__":
    unittest.main()
