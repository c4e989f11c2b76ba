"""Runs under the rule ANY on trees: point 37, and the heading pullstore/free.py."""

import itertools
import unittest

from helpers import (
    NO_TREES, PromiseCase, after_action, all_logs, begins, chances, possible, reached_logs, side_of, some_logs, some_run,
    some_tree, tree_worlds,
)
from pullstore.cluster import Cluster
from pullstore.finish import finished_logs
from pullstore.free import free_fault, free_plan
from pullstore.net import Net
from pullstore.run import ANY, replay

FUNCTIONS = (free_fault, free_plan)


def naive_fault(cluster, logs):
    """Point 37, word by word."""
    homes = cluster.homes
    for source, reader in sorted(cluster.net.links):
        side = side_of(cluster.net, source, reader)
        for entry in logs[reader]:
            if homes[entry] in side and entry not in logs[source]:
                return ("absent", source, reader, entry)
    crossings = []
    for x, y in cluster.net.links:
        side = side_of(cluster.net, x, y)
        both = [entry for entry in logs[x] if entry in logs[y]]
        for first, second in itertools.permutations(both, 2):
            if x < y and homes[first] in side and homes[second] not in side:
                if logs[x].index(second) < logs[x].index(first) and logs[y].index(first) < logs[y].index(second):
                    crossings.append(("crossed", x, y, first, second))
    return min(crossings, default=None)


def naive_plan(cluster, goal):
    """The first allowed action that leaves a prefix, again and again."""
    logs = [[] for _ in goal]
    trace = []
    while logs != goal:
        actions = [one for one in possible(cluster, logs, "any") if begins(after_action(cluster, logs, one), goal)]
        trace.append(actions[0])
        logs = after_action(cluster, logs, actions[0])
    return trace


class FreeCase(PromiseCase):
    def check(self, cluster, logs):
        fault = naive_fault(cluster, logs)
        self.gives(fault, free_fault, cluster, logs)
        if fault is None:
            self.gives(naive_plan(cluster, logs), free_plan, cluster, logs)
        else:
            self.fails(f"FreeFault(fault={fault!r})", free_plan, cluster, logs)


class FreeFaultTest(FreeCase):
    def test_none(self):
        cluster = Cluster(Net.line(3), [0, 2])
        for logs in ([[], [], []], [[0], [0], []], [[0, 1], [0, 1], [1, 0]], [[0, 1], [1, 0], [1, 0]], [[0], [], [1]]):
            self.gives(None, free_fault, cluster, logs)
        # What FIRST does not allow: the second entry without the first one.
        self.gives(None, free_fault, Cluster(Net.line(2), [0, 0]), [[0, 1], [1]])
        self.gives(None, free_fault, Cluster(Net.line(2), [0, 0]), [[0, 1], [1, 0]])

    def test_absent(self):
        cluster = Cluster(Net.line(3), [0, 2])
        self.gives(("absent", 0, 1, 0), free_fault, cluster, [[], [0], []])
        self.gives(("absent", 1, 2, 0), free_fault, cluster, [[0], [], [0]])
        self.gives(("absent", 2, 1, 1), free_fault, cluster, [[], [1], []])
        self.gives(("absent", 1, 0, 1), free_fault, cluster, [[1], [], [1]])
        # The home is on the reader's side: nothing is absent there.
        self.gives(None, free_fault, cluster, [[0], [], []])

    def test_the_first_absence_at_the_least_link(self):
        cluster = Cluster(Net.line(3), [0, 0, 2, 2])
        self.gives(("absent", 0, 1, 1), free_fault, cluster, [[], [3, 1, 0], []])
        self.gives(("absent", 0, 1, 0), free_fault, cluster, [[1], [3, 1, 0], []])
        self.gives(("absent", 2, 1, 3), free_fault, cluster, [[1, 0], [3, 1, 0], [2]])
        self.gives(("absent", 1, 0, 2), free_fault, cluster, [[2, 3], [], []])
        cluster = Cluster(Net.star(3), [1, 2])
        self.gives(("absent", 0, 1, 1), free_fault, cluster, [[0], [1], []])

    def test_crossed(self):
        cluster = Cluster(Net.line(2), [0, 1])
        self.gives(("crossed", 0, 1, 0, 1), free_fault, cluster, [[1, 0], [0, 1]])
        self.gives(None, free_fault, cluster, [[0, 1], [1, 0]])
        self.gives(None, free_fault, cluster, [[1, 0], [1, 0]])
        cluster = Cluster(Net.line(2), [1, 0])
        self.gives(("crossed", 0, 1, 1, 0), free_fault, cluster, [[0, 1], [1, 0]])
        # Entries of one side do not cross.
        self.gives(None, free_fault, Cluster(Net.line(2), [0, 0]), [[1, 0], [0, 1]])

    def test_the_least_crossing(self):
        cluster = Cluster(Net.line(2), [0, 1, 0, 1])
        self.gives(("crossed", 0, 1, 0, 1), free_fault, cluster, [[3, 1, 2, 0], [0, 2, 1, 3]])
        self.gives(("crossed", 0, 1, 0, 3), free_fault, cluster, [[2, 3, 0, 1], [0, 1, 2, 3]])
        self.gives(("crossed", 0, 1, 2, 1), free_fault, cluster, [[0, 1, 3, 2], [0, 2, 1, 3]])
        # The link comes before the entries.
        cluster = Cluster(Net.line(3), [0, 2, 1])
        self.gives(("crossed", 0, 1, 0, 2), free_fault, cluster, [[2, 0, 1], [0, 2, 1], [0, 2, 1]])
        self.gives(("crossed", 1, 2, 0, 1), free_fault, cluster, [[1, 0, 2], [1, 0, 2], [0, 1, 2]])

    def test_an_absence_comes_before_a_crossing(self):
        cluster = Cluster(Net.line(3), [0, 1, 2])
        self.gives(("absent", 2, 1, 2), free_fault, cluster, [[1, 0], [0, 1, 2], []])
        self.gives(("crossed", 0, 1, 0, 1), free_fault, cluster, [[1, 0], [0, 1, 2], [2]])

    def test_no_entries_and_one_replica(self):
        self.check(Cluster(Net.line(2), []), [[], []])
        self.check(Cluster(Net.line(1), [0, 0]), [[1, 0]])
        self.gives([("write", 1), ("write", 0)], free_plan, Cluster(Net.line(1), [0, 0]), [[1, 0]])

    def test_errors_in_their_order(self):
        for function in FUNCTIONS:
            for net in NO_TREES:
                for logs in ([], [[7]] * net.count, [[]] * net.count):
                    self.fails("NotTree()", function, Cluster(net, [0, 0]), logs)
            cluster = Cluster(Net.line(2), [0, 1])
            self.fails("InvalidLogs(replica=None)", function, cluster, [[0]])
            self.fails("InvalidLogs(replica=1)", function, cluster, [[0], [0, 2]])
            self.fails("InvalidLogs(replica=0)", function, cluster, [[0, 0], [2]])
            # A fault of the logs comes behind the logs.
            self.fails("InvalidLogs(replica=1)", function, cluster, [[1], [0, 0]])


class FreePlanTest(FreeCase):
    def test_the_first_action_that_leaves_a_prefix(self):
        cluster = Cluster(Net.line(2), [0, 0])
        expected = [("write", 0), ("write", 1), ("pull", 0, 1, 1)]
        self.gives(expected, free_plan, cluster, [[0, 1], [1]])
        expected = [("write", 1), ("write", 0), ("pull", 0, 1, 0), ("pull", 0, 1, 1)]
        self.gives(expected, free_plan, cluster, [[1, 0], [0, 1]])
        self.gives([], free_plan, cluster, [[], []])

    def test_writes_first_then_the_least_links(self):
        cluster = Cluster(Net.star(3), [1, 2])
        expected = [("write", 0), ("write", 1), ("pull", 2, 0, 1), ("pull", 0, 1, 1), ("pull", 1, 0, 0), ("pull", 0, 2, 0)]
        self.gives(expected, free_plan, cluster, [[1, 0], [0, 1], [1, 0]])

    def test_it_is_a_run_under_any(self):
        for chance in chances(60, "free plans"):
            cluster = some_tree(chance, 6, 5)
            _, goal = some_run(chance, cluster, [[] for _ in range(cluster.net.count)], 25, "any")
            trace = self.ask(free_plan, cluster, goal)
            self.assertEqual(trace, naive_plan(cluster, goal))
            self.assertEqual(replay(cluster, [[] for _ in goal], trace, rule=ANY), goal)

    def test_free_faults(self):
        cluster = Cluster(Net.line(2), [0, 1])
        self.fails("FreeFault(fault=('absent', 0, 1, 0))", free_plan, cluster, [[], [0]])
        self.fails("FreeFault(fault=('crossed', 0, 1, 0, 1))", free_plan, cluster, [[1, 0], [0, 1]])


class SearchTest(FreeCase):
    def test_against_a_search_through_all_runs_under_any(self):
        for cluster in tree_worlds([(1, 2), (1, 3), (2, 1), (2, 2), (2, 3), (3, 1), (3, 2)]):
            empty = [[] for _ in range(cluster.net.count)]
            reached = {repr(logs) for logs in self.reached(cluster, empty)}
            first = {repr(logs) for logs in reached_logs(cluster, empty)}
            self.assertLessEqual(first, reached)
            for logs in all_logs(cluster):
                fault = free_fault(cluster, logs)
                self.assertEqual(fault, naive_fault(cluster, logs))
                self.assertEqual(fault is None, repr(logs) in reached)
                if fault is None:
                    self.assertEqual(free_plan(cluster, logs), naive_plan(cluster, logs))

    def reached(self, cluster, start):
        """All logs that some run under ANY leads to."""
        seen = {repr(start)}
        found = [start]
        for logs in found:
            for action in possible(cluster, logs, "any"):
                later = after_action(cluster, logs, action)
                if repr(later) not in seen:
                    seen.add(repr(later))
                    found.append(later)
        return found

    def test_against_the_words_of_the_document(self):
        for chance in chances(120, "free"):
            cluster = some_tree(chance, 5, 4)
            logs = some_logs(chance, cluster)
            if chance.random() < 0.6:
                _, logs = some_run(chance, cluster, [[] for _ in logs], 20, "any")
            if chance.random() < 0.4:
                log = chance.choice(logs)
                chance.shuffle(log)
            self.check(cluster, logs)

    def test_the_largest_cluster(self):
        for net in (Net.line(24), Net.star(24)):
            cluster = Cluster(net, [(7 * entry) % 24 for entry in range(60)])
            goal = finished_logs(cluster, [[] for _ in range(24)])
            trace = free_plan(cluster, goal)
            self.assertEqual(len(trace), 24 * 60)
            self.assertEqual(replay(cluster, [[] for _ in range(24)], trace, rule=ANY), goal)
            goal[7].reverse()
            fault = naive_fault(cluster, goal)
            self.assertEqual(free_fault(cluster, goal), fault)
            self.assertIsNotNone(fault)


if __name__ == "__main__":
    unittest.main()
