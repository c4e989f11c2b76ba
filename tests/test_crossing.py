"""Codes of pairs and order tables: point 22, and the heading pullstore/crossing.py."""

import itertools
import unittest

from helpers import (
    HUGE, NO_TREES, NOWHERE, PromiseCase, all_logs, chances, full_logs, path_of, side_of, some_tree, tree_worlds,
    unreachable,
)
from pullstore.cluster import Cluster
from pullstore.crossing import logs_of_table, order_table, pair_codes
from pullstore.evidence import Barrier
from pullstore.finish import finished_logs
from pullstore.net import Net


def naive_codes(cluster, first, second):
    """The codes that two entries can have, as point 22 says."""
    path = path_of(cluster.net, cluster.homes[first], cluster.homes[second])
    return ["ahead", "behind", *zip(path, path[1:])]


def naive_code(cluster, logs, first, second):
    """The one code of the two entries that is right in each single log."""
    ahead = [x for x, log in enumerate(logs) if log.index(first) < log.index(second)]
    everyone = list(range(cluster.net.count))
    right = []
    for code in naive_codes(cluster, first, second):
        if ahead == {"ahead": everyone, "behind": []}.get(code) or (
                isinstance(code, tuple) and ahead == side_of(cluster.net, *code)):
            right.append(code)
    if len(right) != 1:
        raise AssertionError((logs, first, second, right))
    return right[0]


def naive_table(cluster, logs):
    pairs = itertools.combinations(range(len(cluster.homes)), 2)
    return {pair: naive_code(cluster, logs, *pair) for pair in pairs}


def naive_logs(cluster, table):
    """The logs of the table, by trying every order of the entries; or the error."""
    entries = range(len(cluster.homes))
    logs = []
    for x in range(cluster.net.count):
        ahead = {}
        for (first, second), code in table.items():
            fine = code == "ahead" or (code != "behind" and x in side_of(cluster.net, *code))
            ahead[(first, second)] = fine
            ahead[(second, first)] = not fine
        found = [log for log in itertools.permutations(entries)
                 if all(ahead[pair] for pair in itertools.combinations(log, 2))]
        if not found:
            # In a circle, each of the three is ahead of one of the other two and behind the other one.
            triple = next(three for three in itertools.combinations(entries, 3)
                          if all(sum(ahead[(one, other)] for other in three if other != one) == 1 for one in three))
            return f"CyclicTable(replica={x}, triple={triple})"
        logs.append(list(found[0]))
    return logs


def all_tables(cluster):
    pairs = list(itertools.combinations(range(len(cluster.homes)), 2))
    for codes in itertools.product(*[naive_codes(cluster, *pair) for pair in pairs]):
        yield dict(zip(pairs, codes))


class PairCodesTest(PromiseCase):
    def setUp(self):
        self.cluster = Cluster(Net.line(4), [0, 3, 1, 3])

    def test_different_homes(self):
        self.gives(["ahead", "behind", (0, 1), (1, 2), (2, 3)], pair_codes, self.cluster, 0, 1)
        self.gives(["ahead", "behind", (3, 2), (2, 1), (1, 0)], pair_codes, self.cluster, 1, 0)
        self.gives(["ahead", "behind", (0, 1)], pair_codes, self.cluster, 0, 2)
        self.gives(["ahead", "behind", (3, 2), (2, 1)], pair_codes, self.cluster, 3, 2)
        cluster = Cluster(Net.star(4), [3, 1])
        self.gives(["ahead", "behind", (3, 0), (0, 1)], pair_codes, cluster, 0, 1)

    def test_equal_homes(self):
        self.gives(["ahead", "behind"], pair_codes, self.cluster, 1, 3)
        self.gives(["ahead", "behind"], pair_codes, self.cluster, 3, 1)
        self.gives(["ahead", "behind"], pair_codes, Cluster(Net.line(1), [0, 0]), 0, 1)

    def test_entries_that_do_not_exist(self):
        for wrong in [4, -4, *NOWHERE]:
            self.fails(f"UnknownEntry(entry={wrong})", pair_codes, self.cluster, wrong, 0)
            self.fails(f"UnknownEntry(entry={wrong})", pair_codes, self.cluster, 0, wrong)
            self.fails(f"UnknownEntry(entry={wrong})", pair_codes, self.cluster, wrong, 5)
        self.fails("UnknownEntry(entry=0)", pair_codes, Cluster(Net.line(2), []), 0, 1)

    def test_the_net_comes_before_the_entries(self):
        for net in NO_TREES:
            for first, second in [(0, 1), (0, 9), (9, 0), (-1, HUGE)]:
                self.fails("NotTree()", pair_codes, Cluster(net, [0, 0]), first, second)

    def test_against_the_words_of_the_document(self):
        for chance in chances(60, "codes"):
            cluster = some_tree(chance, 7, 5)
            for first, second in itertools.permutations(range(5), 2):
                self.gives(naive_codes(cluster, first, second), pair_codes, cluster, first, second)


class OrderTableTest(PromiseCase):
    def test_the_example(self):
        self.gives({(0, 1): (1, 2)}, order_table, Cluster(Net.line(3), [0, 2]), [[0, 1], [0, 1], [1, 0]])

    def test_codes_of_each_kind(self):
        cluster = Cluster(Net.line(3), [0, 2, 2])
        logs = [[0, 2, 1], [0, 2, 1], [2, 0, 1]]
        self.gives({(0, 1): "ahead", (0, 2): (1, 2), (1, 2): "behind"}, order_table, cluster, logs)
        logs = [[0, 1, 2], [1, 0, 2], [1, 2, 0]]
        self.gives({(0, 1): (0, 1), (0, 2): (1, 2), (1, 2): "ahead"}, order_table, cluster, logs)
        cluster = Cluster(Net.star(4), [3, 1])
        self.gives({(0, 1): (3, 0)}, order_table, cluster, [[1, 0], [1, 0], [1, 0], [0, 1]])
        self.gives({(0, 1): (0, 1)}, order_table, cluster, [[0, 1], [1, 0], [0, 1], [0, 1]])

    def test_keys_are_in_ascending_order(self):
        cluster = Cluster(Net.line(2), [1, 0, 1, 0])
        logs = finished_logs(cluster, [[3], [2]])
        table = self.ask(order_table, cluster, logs)
        self.assertEqual(list(table), [(0, 1), (0, 2), (0, 3), (1, 2), (1, 3), (2, 3)])

    def test_no_entries_and_one_entry(self):
        self.gives({}, order_table, Cluster(Net.line(2), []), [[], []])
        self.gives({}, order_table, Cluster(Net.line(2), [1]), [[0], [0]])
        self.gives({(0, 1): "behind"}, order_table, Cluster(Net.line(1), [0, 0]), [[1, 0]])

    def test_errors_in_their_order(self):
        for net in NO_TREES:
            cluster = Cluster(net, [0, 0])
            full = [[0, 1] for _ in range(net.count)]
            for logs in (full, [[1, 0]] + full[1:], [[0]] + full[1:], [[7]] + full[1:], []):
                self.fails("NotTree()", order_table, cluster, logs)
        cluster = Cluster(Net.line(3), [0, 2])
        for logs, error in [
            ([[0, 1], [0], [0, 2]], "InvalidLogs(replica=2)"),
            ([[0], [0, 0], [0, 1]], "InvalidLogs(replica=1)"),
            ([[0], [0]], "InvalidLogs(replica=None)"),
            ([[0, 1], [1], []], "NotFull(replica=1)"),
            ([[0, 1], [0, 1], [1]], "NotFull(replica=2)"),
            ([[], [], []], "NotFull(replica=0)"),
            ([[1, 0], [0, 1], [0]], "NotFull(replica=2)"),
            ([[1, 0], [0, 1], [0, 1]], unreachable(Barrier(0, [0]))),
            ([[0, 1], [1, 0], [0, 1]], unreachable(Barrier(0, [0, 1]))),
            ([[0, 1], [1, 0], [1, 0]], None),
        ]:
            if error:
                self.fails(error, order_table, cluster, logs)
            else:
                self.gives({(0, 1): (0, 1)}, order_table, cluster, logs)
        self.fails("NotFull(replica=0)", order_table, Cluster(Net.line(1), [0]), [[]])


class LogsOfTableTest(PromiseCase):
    def setUp(self):
        self.cluster = Cluster(Net.line(3), [0, 2, 2])
        self.table = {(0, 1): (0, 1), (0, 2): (1, 2), (1, 2): "ahead"}

    def test_the_example(self):
        cluster = Cluster(Net.line(2), [0, 0, 1])
        table = {(0, 1): "ahead", (0, 2): "behind", (1, 2): (0, 1)}
        self.fails("CyclicTable(replica=0, triple=(0, 1, 2))", logs_of_table, cluster, table)

    def test_the_logs_of_a_table(self):
        self.gives([[0, 1, 2], [1, 0, 2], [1, 2, 0]], logs_of_table, self.cluster, self.table)
        self.table[(0, 1)] = "behind"
        self.gives([[1, 0, 2], [1, 0, 2], [1, 2, 0]], logs_of_table, self.cluster, self.table)

    def test_no_entries_and_one_entry(self):
        self.gives([[], []], logs_of_table, Cluster(Net.line(2), []), {})
        self.gives([[0], [0]], logs_of_table, Cluster(Net.line(2), [1]), {})
        self.gives([[1, 0]], logs_of_table, Cluster(Net.line(1), [0, 0]), {(0, 1): "behind"})

    def test_keys_in_any_order_and_keys_that_are_no_pairs(self):
        expected = [[0, 1, 2], [1, 0, 2], [1, 2, 0]]
        table = {key: self.table[key] for key in list(self.table)[::-1]}
        self.gives(expected, logs_of_table, self.cluster, table)
        others = [(1, 0), (0, 0), (2, 1), (0, 3), (-1, 0), (3, 4), (0, HUGE), (0,), (0, 1, 2), (), 0, 1, "ahead",
                  "01", None, ("0", "1"), ((0, 1), 2)]
        for worth in ("ahead", "behind", (0, 1), None, 7, "odd"):
            more = {key: worth for key in others}
            self.gives(expected, logs_of_table, self.cluster, {**more, **self.table})
            self.gives(expected, logs_of_table, self.cluster, {**self.table, **more})
        self.gives([[], []], logs_of_table, Cluster(Net.line(2), []), {(0, 1): "ahead", (1, 0): 5})

    def test_the_least_pair_without_a_code(self):
        for missing, pair in [([(0, 1)], (0, 1)), ([(0, 2)], (0, 2)), ([(1, 2)], (1, 2)),
                              ([(1, 2), (0, 2)], (0, 2)), ([(0, 1), (1, 2)], (0, 1))]:
            table = {key: code for key, code in self.table.items() if key not in missing}
            self.fails(f"InvalidTable(first={pair[0]}, second={pair[1]})", logs_of_table, self.cluster, table)
        self.fails("InvalidTable(first=0, second=1)", logs_of_table, self.cluster, {(1, 0): "ahead"})

    def test_codes_that_the_pair_cannot_have(self):
        wrong = ["", "Ahead", "ahead ", "before", (1, 0), (2, 1), (0, 2), (0, 0), (3, 4), (-1, 0), (0, 1, 2), (), 0,
                 None, (HUGE, 0), ("0", "1")]
        for code in wrong:
            for first, second in [(0, 1), (0, 2), (1, 2)]:
                table = {**self.table, (first, second): code}
                self.fails(f"InvalidTable(first={first}, second={second})", logs_of_table, self.cluster, table)
        # Entries with the same home have no link; other pairs have only those between their homes.
        for code in [(0, 1), (1, 2), (2, 1)]:
            table = {**self.table, (1, 2): code}
            self.fails("InvalidTable(first=1, second=2)", logs_of_table, self.cluster, table)
        cluster = Cluster(Net.line(4), [1, 2])
        self.gives([[0, 1], [0, 1], [1, 0], [1, 0]], logs_of_table, cluster, {(0, 1): (1, 2)})
        for code in [(0, 1), (2, 3), (2, 1)]:
            self.fails("InvalidTable(first=0, second=1)", logs_of_table, cluster, {(0, 1): code})

    def test_the_path_goes_from_the_home_of_the_first_one(self):
        cluster = Cluster(Net.line(3), [2, 0])
        self.gives([[1, 0], [0, 1], [0, 1]], logs_of_table, cluster, {(0, 1): (1, 0)})
        self.fails("InvalidTable(first=0, second=1)", logs_of_table, cluster, {(0, 1): (0, 1)})

    def test_the_least_wrong_pair(self):
        table = {(0, 1): "ahead", (0, 2): (1, 0), (1, 2): "odd"}
        self.fails("InvalidTable(first=0, second=2)", logs_of_table, self.cluster, table)
        del table[(0, 2)]
        self.fails("InvalidTable(first=0, second=2)", logs_of_table, self.cluster, table)

    def test_the_least_replica_and_the_least_circle_there(self):
        cluster = Cluster(Net.line(2), [0, 0, 0, 0, 1])
        table = {pair: "ahead" for pair in itertools.combinations(range(5), 2)}
        self.gives([[0, 1, 2, 3, 4]] * 2, logs_of_table, cluster, table)
        # 1 is ahead of 2 and 3, 2 is ahead of 3 and 4, 3 is ahead of 4, but 4 is ahead of 1.
        self.fails("CyclicTable(replica=0, triple=(1, 2, 4))", logs_of_table, cluster, {**table, (1, 4): "behind"})
        # At replica 0 nothing goes in a circle, because 1 is ahead of 4 there.
        self.fails("CyclicTable(replica=1, triple=(1, 2, 4))", logs_of_table, cluster, {**table, (1, 4): (0, 1)})
        table[(0, 2)] = "behind"
        self.fails("CyclicTable(replica=0, triple=(0, 1, 2))", logs_of_table, cluster, {**table, (1, 4): "behind"})
        self.fails("CyclicTable(replica=0, triple=(0, 1, 2))", logs_of_table, cluster, {**table, (1, 4): (0, 1)})

    def test_a_wrong_code_comes_before_a_circle(self):
        table = {(0, 1): "ahead", (0, 2): "behind", (1, 2): "ahead"}
        self.fails("CyclicTable(replica=0, triple=(0, 1, 2))", logs_of_table, self.cluster, table)
        self.fails("InvalidTable(first=1, second=2)", logs_of_table, self.cluster, {**table, (1, 2): "odd"})
        cluster = Cluster(Net.line(3), [0, 2, 2, 1])
        self.fails("InvalidTable(first=0, second=3)", logs_of_table, cluster, table)

    def test_the_net_comes_first(self):
        for net in NO_TREES:
            cluster = Cluster(net, [0, 0, 0])
            for table in ({}, {(0, 1): "odd"}, {(0, 1): "ahead", (0, 2): "behind", (1, 2): "ahead"}):
                self.fails("NotTree()", logs_of_table, cluster, table)
                # Also where there is no pair of entries to look at.
                for homes in ([], [0]):
                    self.fails("NotTree()", logs_of_table, Cluster(net, homes), table)


class AllLogsTest(PromiseCase):
    def test_tables_and_full_reachable_logs_belong_together(self):
        for cluster in tree_worlds([(1, 3), (2, 3), (3, 2)]):
            tables = {repr(naive_table(cluster, logs)): logs for logs in full_logs(cluster)}
            for table in all_tables(cluster):
                expected = naive_logs(cluster, table)
                if isinstance(expected, str):
                    self.assertNotIn(repr(table), tables)
                    self.fails(expected, logs_of_table, cluster, table)
                else:
                    self.assertEqual(tables.pop(repr(table)), expected)
                    self.gives(expected, logs_of_table, cluster, table)
                    self.gives(table, order_table, cluster, expected)
            self.assertFalse(tables)

    def test_only_reachable_logs_have_a_table(self):
        for homes in ([0, 0], [0, 2], [1, 2]):
            cluster = Cluster(Net.line(3), homes)
            full = [repr(logs) for logs in full_logs(cluster)]
            for logs in all_logs(cluster):
                answer = self.ask(order_table, cluster, logs)
                self.assertEqual(isinstance(answer, dict), repr(logs) in full)

    def test_three_entries_on_three_replicas(self):
        for homes in ([0, 0, 2], [0, 1, 2], [2, 0, 1], [1, 1, 0]):
            for net in (Net.line(3), Net.star(3)):
                cluster = Cluster(net, homes)
                found = 0
                for table in all_tables(cluster):
                    expected = naive_logs(cluster, table)
                    if isinstance(expected, str):
                        self.fails(expected, logs_of_table, cluster, table)
                    else:
                        found += 1
                        self.gives(expected, logs_of_table, cluster, table)
                        self.gives(table, order_table, cluster, expected)
                self.assertEqual(found, len(full_logs(cluster)))

    def test_larger_logs(self):
        for chance in chances(60, "tables"):
            cluster = some_tree(chance, 7, 6)
            entries = chance.sample(range(6), 6)
            start = [[entry for entry in entries if cluster.homes[entry] == x] for x in range(cluster.net.count)]
            logs = finished_logs(cluster, start)
            table = naive_table(cluster, logs)
            self.gives(table, order_table, cluster, logs)
            self.gives(logs, logs_of_table, cluster, table)

    def test_the_largest_cluster(self):
        for net in (Net.line(24), Net.star(24)):
            cluster = Cluster(net, [(7 * entry) % 24 for entry in range(60)])
            logs = finished_logs(cluster, [[] for _ in range(24)])
            table = order_table(cluster, logs)
            self.assertEqual(len(table), 1770)
            self.assertEqual(logs_of_table(cluster, table), logs)


if __name__ == "__main__":
    unittest.main()
