"""Readings: point 28, and the heading pullstore/readings.py."""

import itertools
import unittest

from helpers import (
    NO_TREES, NOWHERE, PromiseCase, chances, full_logs, side_of, some_cluster, some_logs, some_tree, tree_worlds,
    unreachable,
)
from pullstore.audit import audit
from pullstore.cluster import Cluster
from pullstore.crossing import logs_of_table, pair_codes
from pullstore.errors import CyclicTable
from pullstore.finish import finished_logs
from pullstore.net import Net
from pullstore.readings import read_entry, split_key, split_keys

FUNCTIONS = (split_key, split_keys)
# Every sign that a key may have.
SIGNS = "".join(chr(number) for number in range(32, 127) if chr(number) != "%")


def naive_reading(log, key_of, key):
    """The last entry of the log that has the key, or None."""
    return ([None] + [entry for entry in log if key_of[entry] == key])[-1]


def naive_split(net, logs, key_of, key):
    """The only links x < y whose replicas differ, with their readings."""
    readings = [naive_reading(log, key_of, key) for log in logs]
    return [(x, y, readings[x], readings[y]) for x, y in net.links if x < y and readings[x] != readings[y]]


def ask_split(case, function, cluster, logs, key_of, key):
    """Asks either function: the one about all keys is not passed a key."""
    return case.ask(function, cluster, logs, key_of, *([key] if function == split_key else []))


class ReadEntryTest(PromiseCase):
    def test_the_last_entry_that_has_the_key(self):
        cluster = Cluster(Net.line(3), [0, 2, 1, 0])
        key_of = ["a", "b", "a", "b"]
        logs = [[0, 2, 1], [2, 0, 3, 1], []]
        self.gives(2, read_entry, cluster, logs, key_of, 0, "a")
        self.gives(0, read_entry, cluster, logs, key_of, 1, "a")
        self.gives(1, read_entry, cluster, logs, key_of, 0, "b")
        self.gives(1, read_entry, cluster, logs, key_of, 1, "b")

    def test_nothing_is_read(self):
        cluster = Cluster(Net.line(2), [0, 1])
        self.gives(None, read_entry, cluster, [[], [0]], ["a", "b"], 0, "a")
        self.gives(None, read_entry, cluster, [[0], [0]], ["a", "b"], 0, "b")
        self.gives(None, read_entry, cluster, [[0], [0]], ["a", "b"], 0, "c")
        self.gives(None, read_entry, cluster, [[0], [0]], ["a", "b"], 0, "")
        self.gives(None, read_entry, cluster, [[0], [0]], ["a", "b"], 0, "aa")
        self.gives(None, read_entry, cluster, [[0], [0]], ["aa", "b"], 0, "a")
        self.gives(None, read_entry, Cluster(Net.line(2), []), [[], []], [], 1, "a")

    def test_an_empty_key_and_a_key_of_every_sign(self):
        cluster = Cluster(Net.line(2), [0, 1, 1])
        self.gives(2, read_entry, cluster, [[0, 2, 1], []], ["", SIGNS, ""], 0, "")
        self.gives(1, read_entry, cluster, [[0, 2, 1], []], ["", SIGNS, ""], 0, SIGNS)
        for one, other in itertools.permutations(SIGNS, 2):
            key_of = [one, other, one + other]
            logs = [[0, 1, 2], [0, 1, 2]]
            self.assertEqual([read_entry(cluster, logs, key_of, 0, key) for key in key_of], [0, 1, 2])

    def test_the_net_may_be_of_any_kind_and_the_logs_need_not_be_reachable(self):
        for net in (Net(2, []), Net(2, [(1, 0)]), Net.ring(2)):
            cluster = Cluster(net, [0, 0, 1])
            self.gives(1, read_entry, cluster, [[2, 1], [0]], ["a", "a", "a"], 0, "a")
            self.gives(0, read_entry, cluster, [[2, 1], [0]], ["a", "a", "a"], 1, "a")

    def test_errors_in_their_order(self):
        cluster = Cluster(Net.line(2), [0, 1])
        logs = [[0], [0, 1]]
        for key_of in ([], ["a"], ["a", "b", "c"], ["a"] * 60):
            self.fails("InvalidData(entry=None)", read_entry, cluster, logs, key_of, 0, "a")
            self.fails("InvalidData(entry=None)", read_entry, cluster, logs, key_of, 2, "a")
            self.fails("InvalidLogs(replica=1)", read_entry, cluster, [[0], [2]], key_of, 2, "a")
            self.fails("InvalidLogs(replica=None)", read_entry, cluster, [[0]], key_of, 0, "a")
        self.fails("InvalidLogs(replica=0)", read_entry, cluster, [[0, 0], [2]], ["a", "b"], 5, "a")
        for replica in [2, *NOWHERE]:
            self.fails(f"UnknownReplica(replica={replica})", read_entry, cluster, logs, ["a", "b"], replica, "a")
            self.fails(f"UnknownReplica(replica={replica})", read_entry, cluster, logs, ["a", "b"], replica, "c")

    def test_against_the_words_of_the_document(self):
        for chance in chances(60, "read entry"):
            cluster = some_cluster(chance)
            logs = some_logs(chance, cluster)
            key_of = [chance.choice(["", "a", "b", "ab"]) for _ in cluster.homes]
            for replica in range(cluster.net.count):
                for key in ["", "a", "b", "ab", "ba"]:
                    expected = naive_reading(logs[replica], key_of, key)
                    self.gives(expected, read_entry, cluster, logs, key_of, replica, key)


class SplitTest(PromiseCase):
    def test_one_link_parts_the_readings(self):
        cluster = Cluster(Net.line(3), [0, 2, 1])
        logs = [[0, 1, 2], [0, 1, 2], [1, 0, 2]]
        self.gives((1, 2, 1, 0), split_key, cluster, logs, ["a", "a", "b"], "a")
        self.gives(None, split_key, cluster, logs, ["a", "a", "b"], "b")
        self.gives([("a", 1, 2, 1, 0)], split_keys, cluster, logs, ["a", "a", "b"])
        self.gives(None, split_key, cluster, logs, ["a", "a", "a"], "a")
        self.gives([], split_keys, cluster, logs, ["a", "a", "a"])

    def test_the_lower_replica_comes_first(self):
        cluster = Cluster(Net.line(3), [2, 0])
        logs = [[1, 0], [0, 1], [0, 1]]
        self.gives((0, 1, 0, 1), split_key, cluster, logs, ["x", "x"], "x")
        cluster = Cluster(Net.star(3), [1, 2])
        self.gives((0, 1, 0, 1), split_key, cluster, [[1, 0], [0, 1], [1, 0]], ["x", "x"], "x")

    def test_no_entry_has_the_key(self):
        cluster = Cluster(Net.line(2), [0, 1])
        logs = [[0, 1], [1, 0]]
        for key in ("c", "", "aa", "A"):
            self.gives(None, split_key, cluster, logs, ["a", "a"], key)
        self.gives((0, 1, 1, 0), split_key, cluster, logs, ["a", "a"], "a")

    def test_keys_in_ascending_order(self):
        # Three pairs of entries that each differ; the keys do not ascend with the entries.
        cluster = Cluster(Net.line(2), [0, 1, 0, 1, 0, 1])
        logs = [[0, 2, 4, 1, 3, 5], [1, 3, 5, 0, 2, 4]]
        self.gives([("a", 0, 1, 5, 4), ("b", 0, 1, 1, 0), ("c", 0, 1, 3, 2)],
                   split_keys, cluster, logs, ["b", "b", "c", "c", "a", "a"])
        self.gives([("", 0, 1, 5, 4), ("A", 0, 1, 1, 0), ("a", 0, 1, 3, 2)],
                   split_keys, cluster, logs, ["A", "A", "a", "a", "", ""])
        self.gives([("a", 0, 1, 3, 2), ("a ", 0, 1, 5, 4), ("ab", 0, 1, 1, 0)],
                   split_keys, cluster, logs, ["ab", "ab", "a", "a", "a ", "a "])
        self.gives([("a", 0, 1, 5, 4)], split_keys, cluster, logs, ["a"] * 6)
        self.gives((0, 1, 5, 4), split_key, cluster, logs, ["x", "x", "x", "x", "", ""], "")

    def test_no_entries_and_one_replica(self):
        cluster = Cluster(Net.line(2), [])
        self.gives(None, split_key, cluster, [[], []], [], "a")
        self.gives([], split_keys, cluster, [[], []], [])
        cluster = Cluster(Net.line(1), [0, 0])
        self.gives(None, split_key, cluster, [[1, 0]], ["a", "a"], "a")
        self.gives([], split_keys, cluster, [[1, 0]], ["a", "a"])

    def test_errors_in_their_order(self):
        cluster = Cluster(Net.line(3), [0, 0])
        short = ["a"]
        unfull = [[0, 1], [1, 0], [0]]
        barred = [[0, 1], [1, 0], [0, 1]]
        for function in FUNCTIONS:
            for net in NO_TREES:
                wrong = Cluster(net, [0, 0])
                for logs, key_of in (([], []), ([[9]], ["a", "a"]), ([[0, 1]] * net.count, ["a", "a"])):
                    self.assertEqual(ask_split(self, function, wrong, logs, key_of, "a"), "NotTree()")
            for logs, key_of, error in [
                ([[0], [2], []], short, "InvalidLogs(replica=1)"),
                ([[0], [2, 2], []], ["a", "a"], "InvalidLogs(replica=1)"),
                ([[0]], [], "InvalidLogs(replica=None)"),
                (unfull, short, "InvalidData(entry=None)"),
                (barred, ["a", "b", "c"], "InvalidData(entry=None)"),
                ([[0, 1]] * 3, [], "InvalidData(entry=None)"),
                (unfull, ["a", "a"], "NotFull(replica=2)"),
                ([[], [], []], ["a", "b"], "NotFull(replica=0)"),
                ([[0, 1], [1], [1]], ["a", "b"], "NotFull(replica=1)"),
                (barred, ["a", "b"], unreachable(audit(cluster, [[], [], []], barred))),
            ]:
                self.assertEqual(ask_split(self, function, cluster, logs, key_of, "a"), error)
                # Also for a key that no entry has.
                self.assertEqual(ask_split(self, function, cluster, logs, key_of, "z"), error)

    def test_the_audit_is_that_of_the_whole_logs(self):
        # The fault is of entries that do not have the key.
        cluster = Cluster(Net.line(2), [0, 1, 0, 0])
        logs = [[0, 1, 2, 3], [1, 0, 3, 2]]
        error = unreachable(audit(cluster, [[], []], logs))
        self.fails(error, split_key, cluster, logs, ["a", "a", "b", "c"], "a")
        self.fails(error, split_keys, cluster, logs, ["a", "a", "b", "c"])

    def test_against_all_full_logs_of_small_trees(self):
        for cluster in tree_worlds([(1, 2), (2, 2), (2, 3), (3, 2), (3, 3)]):
            for logs in full_logs(cluster):
                for key_of in itertools.product(["", "a"], repeat=cluster.size):
                    self.check_split(cluster, logs, list(key_of))

    def check_split(self, cluster, logs, key_of):
        net = cluster.net
        expected = []
        for key in sorted(set(key_of) | {"b"}):
            found = naive_split(net, logs, key_of, key)
            # Point 28: two entries at most, and one link at most, as in point 25.
            self.assertLessEqual(len(found), 1)
            if found:
                x, y, one, other = found[0]
                self.assertIn(cluster.homes[other], side_of(net, x, y))
                self.assertIn(cluster.homes[one], side_of(net, y, x))
                for replica in range(net.count):
                    read = one if replica in side_of(net, x, y) else other
                    self.assertEqual(naive_reading(logs[replica], key_of, key), read)
                expected.append((key, *found[0]))
            answer = split_key(cluster, logs, key_of, key)
            self.assertEqual(repr(answer), repr(found[0] if found else None))
        self.assertEqual(repr(split_keys(cluster, logs, key_of)), repr(expected))

    def test_larger_trees(self):
        for chance in chances(40, "split keys"):
            cluster = some_tree(chance, 6, 5)
            table = {}
            for first, second in itertools.combinations(range(5), 2):
                table[(first, second)] = chance.choice(pair_codes(cluster, first, second))
            try:
                logs = logs_of_table(cluster, table)
            except CyclicTable:
                logs = finished_logs(cluster, [[] for _ in range(cluster.net.count)])
            key_of = [chance.choice("ab") for _ in range(5)]
            self.check_split(cluster, logs, key_of)
            self.ask(split_keys, cluster, logs, key_of)
            self.ask(split_key, cluster, logs, key_of, "a")

    def test_the_largest_cluster(self):
        homes = [(7 * entry) % 24 for entry in range(60)]
        for net in (Net.line(24), Net.star(24)):
            cluster = Cluster(net, homes)
            logs = finished_logs(cluster, [[] for _ in range(24)])
            key_of = [f"{entry % 30:02}" for entry in range(60)]
            self.check_split(cluster, logs, key_of)
            self.gives(naive_reading(logs[5], key_of, "17"), read_entry, cluster, logs, key_of, 5, "17")


if __name__ == "__main__":
    unittest.main()
