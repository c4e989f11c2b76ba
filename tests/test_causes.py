"""Causes, layers, chains and other orders: point 10, and the heading pullstore/causes.py."""

import itertools
import unittest

from helpers import (
    HUGE, PromiseCase, chances, naive_run, some_cluster, some_logs, some_run,
)
from pullstore.causes import longest_chain, reorder, trace_causes, trace_layers
from pullstore.cluster import Cluster
from pullstore.net import Net


def place(cluster, action):
    return cluster.homes[action[1]] if action[0] == "write" else action[2]


def naive_causes(cluster, trace):
    """The causes as point 10 says, by going back through the whole trace."""
    causes = []
    for index, action in enumerate(trace):
        before = range(index)
        same = [k for k in before if place(cluster, trace[k]) == place(cluster, action)]
        found = same[-1:]
        if action[0] == "pull":
            found += [k for k in before if place(cluster, trace[k]) == action[1] and trace[k][-1] == action[3]]
        causes.append(sorted(found))
    return causes


def naive_layers(causes):
    layers = []
    for found in causes:
        layers.append(max([layers[k] for k in found] + [0]) + 1)
    return layers


class CausesTest(PromiseCase):
    def setUp(self):
        self.cluster = Cluster(Net.line(3), [0, 0, 2])
        self.empty = [[], [], []]
        self.trace = [("write", 0), ("write", 1), ("write", 2), ("pull", 2, 1, 2), ("pull", 0, 1, 0),
                      ("pull", 1, 2, 0), ("pull", 0, 1, 1)]

    def test_causes(self):
        expected = [[], [0], [], [2], [0, 3], [2, 4], [1, 4]]
        self.gives(expected, trace_causes, self.cluster, self.empty, self.trace)

    def test_layers(self):
        self.gives([1, 2, 1, 2, 3, 4, 4], trace_layers, self.cluster, self.empty, self.trace)

    def test_the_longest_chain(self):
        self.gives([2, 3, 4, 5], longest_chain, self.cluster, self.empty, self.trace)

    def test_an_entry_that_the_source_held_at_the_start_is_no_cause(self):
        start = [[0, 1], [], []]
        trace = [("pull", 0, 1, 0), ("write", 2), ("pull", 0, 1, 1), ("pull", 1, 2, 0)]
        self.gives([[], [], [0], [0, 1]], trace_causes, self.cluster, start, trace)
        self.gives([1, 1, 2, 2], trace_layers, self.cluster, start, trace)
        self.gives([0, 2], longest_chain, self.cluster, start, trace)

    def test_the_place_of_a_pull_is_its_reader(self):
        start = [[0], [], [2]]
        trace = [("pull", 0, 1, 0), ("write", 1), ("pull", 2, 1, 2), ("pull", 1, 0, 2), ("pull", 1, 2, 0)]
        self.gives([[], [], [0], [1, 2], [0]], trace_causes, self.cluster, start, trace)

    def test_the_cause_at_the_source_is_the_one_with_the_same_entry(self):
        # Entry 1 comes to replica 1 at index 3; what comes there later is no cause of index 5.
        trace = [("write", 0), ("write", 1), ("pull", 0, 1, 0), ("pull", 0, 1, 1), ("pull", 1, 2, 0),
                 ("pull", 1, 2, 1)]
        self.gives([[], [0], [0], [1, 2], [2], [3, 4]], trace_causes, self.cluster, self.empty, trace)
        self.gives([1, 2, 2, 3, 3, 4], trace_layers, self.cluster, self.empty, trace)
        # Both 3 and 4 have the layer before the last one, and both 1 and 2 the one before.
        self.gives([0, 1, 3, 5], longest_chain, self.cluster, self.empty, trace)

    def test_the_chain_ends_at_the_least_index_with_the_greatest_layer(self):
        cluster = Cluster(Net(3, []), [0, 1, 2, 2, 1])
        trace = [("write", 0), ("write", 2), ("write", 3), ("write", 1), ("write", 4)]
        self.gives([1, 1, 2, 1, 2], trace_layers, cluster, self.empty, trace)
        self.gives([1, 2], longest_chain, cluster, self.empty, trace)

    def test_a_cause_with_a_lower_layer_is_not_in_the_chain(self):
        # The causes of index 4 are 0 with layer 1 and 3 with layer 3.
        trace = [("write", 2), ("write", 0), ("pull", 2, 1, 2), ("pull", 0, 1, 0), ("pull", 1, 2, 0)]
        self.gives([[], [], [0], [1, 2], [0, 3]], trace_causes, self.cluster, self.empty, trace)
        self.gives([0, 2, 3, 4], longest_chain, self.cluster, self.empty, trace)

    def test_the_empty_trace(self):
        for start in (self.empty, [[0], [1], []]):
            self.gives([], trace_causes, self.cluster, start, [])
            self.gives([], trace_layers, self.cluster, start, [])
            self.gives([], longest_chain, self.cluster, start, [])
            self.gives([], reorder, self.cluster, start, [], [])

    def test_bad_traces(self):
        for function in (trace_causes, trace_layers, longest_chain):
            for index in range(len(self.trace) + 1):
                for bad in [("write", 3), ("write", -1), ("pull", 0, 2, 0), ("pull", HUGE, 1, 0)]:
                    trace = self.trace[:index] + [bad] + self.trace[index:]
                    self.fails(f"BadTrace(index={index})", function, self.cluster, self.empty, trace)
            self.fails("BadTrace(index=0)", function, self.cluster, [[0], [], []], self.trace)

    def test_the_rule_is_first(self):
        start = [[0, 1], [], []]
        for function in (trace_causes, trace_layers, longest_chain):
            self.fails("BadTrace(index=0)", function, self.cluster, start, [("pull", 0, 1, 1)])
        self.fails("BadTrace(index=0)", reorder, self.cluster, start, [("pull", 0, 1, 1)], [0])

    def test_invalid_logs_come_first(self):
        for trace in ([], self.trace, [("write", 9)]):
            for function in (trace_causes, trace_layers, longest_chain):
                self.fails("InvalidLogs(replica=1)", function, self.cluster, [[], [5], []], trace)
                self.fails("InvalidLogs(replica=None)", function, self.cluster, [[]], trace)

    def test_against_the_words_of_the_document(self):
        for chance in chances(150, "causes"):
            cluster = some_cluster(chance, 5)
            start = some_logs(chance, cluster) if chance.random() < 0.5 else [[] for _ in range(cluster.net.count)]
            trace, _ = some_run(chance, cluster, start, 25)
            causes = naive_causes(cluster, trace)
            layers = naive_layers(causes)
            self.gives(causes, trace_causes, cluster, start, trace)
            self.gives(layers, trace_layers, cluster, start, trace)
            chain = self.ask(longest_chain, cluster, start, trace)
            self.assertEqual(len(chain), max(layers, default=0))
            if chain:
                self.assertEqual(chain[-1], layers.index(max(layers)))
            for one, then in zip(chain, chain[1:]):
                best = [k for k in causes[then] if layers[k] == layers[then] - 1]
                self.assertEqual(one, min(best))


class ReorderTest(PromiseCase):
    def setUp(self):
        self.cluster = Cluster(Net.line(2), [0, 1])
        self.empty = [[], []]
        self.trace = [("write", 0), ("write", 1), ("pull", 0, 1, 0), ("pull", 1, 0, 1)]

    def test_orders_that_respect_the_causes(self):
        for order in ([0, 1, 2, 3], [1, 0, 2, 3], [0, 1, 3, 2], [1, 0, 3, 2]):
            expected = [self.trace[k] for k in order]
            self.gives(expected, reorder, self.cluster, self.empty, self.trace, order)

    def test_an_index_ahead_of_one_of_its_causes(self):
        self.fails("BadOrder(position=0)", reorder, self.cluster, self.empty, self.trace, [2, 0, 1, 3])
        self.fails("BadOrder(position=1)", reorder, self.cluster, self.empty, self.trace, [0, 2, 1, 3])
        self.fails("BadOrder(position=1)", reorder, self.cluster, self.empty, self.trace, [1, 2, 0, 3])
        self.fails("BadOrder(position=1)", reorder, self.cluster, self.empty, self.trace, [0, 3, 1, 2])

    def test_integers_that_are_no_index(self):
        for wrong in [4, 5, -1, -4, HUGE, -HUGE]:
            self.fails("BadOrder(position=0)", reorder, self.cluster, self.empty, self.trace, [wrong])
            self.fails("BadOrder(position=2)", reorder, self.cluster, self.empty, self.trace, [0, 1, wrong, 3])
            self.fails("BadOrder(position=4)", reorder, self.cluster, self.empty, self.trace, [0, 1, 2, 3, wrong])
            self.fails("BadOrder(position=0)", reorder, self.cluster, self.empty, [], [wrong])
        self.fails("BadOrder(position=0)", reorder, self.cluster, self.empty, [], [0])

    def test_an_index_for_the_second_time(self):
        self.fails("BadOrder(position=1)", reorder, self.cluster, self.empty, self.trace, [0, 0, 1, 2])
        self.fails("BadOrder(position=3)", reorder, self.cluster, self.empty, self.trace, [0, 1, 2, 0])
        self.fails("BadOrder(position=4)", reorder, self.cluster, self.empty, self.trace, [0, 1, 2, 3, 3])

    def test_an_order_that_is_only_too_short(self):
        for order in ([], [0], [1, 0], [1, 0, 2], [0, 1, 3]):
            error = f"BadOrder(position={len(order)})"
            self.fails(error, reorder, self.cluster, self.empty, self.trace, order)

    def test_a_wrong_position_comes_before_the_length(self):
        self.fails("BadOrder(position=0)", reorder, self.cluster, self.empty, self.trace, [3])
        self.fails("BadOrder(position=1)", reorder, self.cluster, self.empty, self.trace, [1, 1])

    def test_bad_trace_comes_before_bad_order(self):
        bad = self.trace + [("write", 0)]
        self.fails("BadTrace(index=4)", reorder, self.cluster, self.empty, bad, [])
        self.fails("BadTrace(index=4)", reorder, self.cluster, self.empty, bad, [-1, 9])

    def test_invalid_logs_come_first(self):
        self.fails("InvalidLogs(replica=0)", reorder, self.cluster, [[2], []], [("write", 7)], [5])
        self.fails("InvalidLogs(replica=0)", reorder, self.cluster, [[2], []], [], [])
        self.fails("InvalidLogs(replica=None)", reorder, self.cluster, [], [], [])

    def test_every_order_of_short_runs(self):
        for chance in chances(25, "reorder"):
            cluster = some_cluster(chance, 4)
            start = some_logs(chance, cluster) if chance.random() < 0.4 else [[] for _ in range(cluster.net.count)]
            trace, logs = some_run(chance, cluster, start, 5)
            causes = naive_causes(cluster, trace)
            for order in itertools.permutations(range(len(trace))):
                wrong = [k for k, index in enumerate(order) if not set(causes[index]) <= set(order[:k])]
                if wrong:
                    error = f"BadOrder(position={wrong[0]})"
                    self.fails(error, reorder, cluster, start, trace, list(order))
                else:
                    expected = [trace[index] for index in order]
                    self.gives(expected, reorder, cluster, start, trace, list(order))
                    # As point 10 says, it is a run again, and leads to the same logs.
                    self.assertEqual(naive_run(cluster, start, expected), logs)


if __name__ == "__main__":
    unittest.main()
