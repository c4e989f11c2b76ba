"""The table of readings: points 28 and 38, and the heading pullstore/report.py."""

import string
import unittest

from helpers import HUGE, PromiseCase, chances, some_cluster, some_logs
from pullstore.cluster import Cluster
from pullstore.desk import Desk
from pullstore.net import Net
from pullstore.report import report_text


def naive_report(cluster, logs, key_of, value_of):
    """The table, as its description says."""
    table = ["key" + " " * 5 + "".join(f"{x:6}" for x in range(cluster.net.count))]
    for key in sorted(set(key_of)):
        line = key + " " * (8 - len(key))
        for log in logs:
            read = [entry for entry in log if key_of[entry] == key]
            word = str(value_of[read[-1]]) if read else "-"
            line += " " * (6 - len(word)) + word
        table.append(line)
    return "\n".join(table)


# Keys and values of two entries that are not valid, with the entry that the error names.
WRONG = [
    ([], [], None), (["a"], [1, 2], None), (["a", "b"], [1], None), (["a", "b", "c"], [1, 2], None),
    (["a", "b"], [1, 2, 3], None), (["A"], [10000], None), (["A", "b"], [], None), ([], [10000, 1], None),
    (["", "b"], [1, 2], 0), (["a", ""], [1, 2], 1), (["a", "abcdefghi"], [1, 2], 1), (["A", "b"], [1, 2], 0),
    (["a", "aB"], [1, 2], 1), (["a b", "b"], [1, 2], 0), (["a", "b1"], [1, 2], 1), (["a", "-"], [1, 2], 1),
    (["a", "`"], [1, 2], 1), (["{", "b"], [1, 2], 0), (["a", "b"], [10000, 2], 0), (["a", "b"], [1, -10000], 1),
    (["a", "b"], [HUGE, 1], 0), (["a", "b"], [1, -HUGE], 1), (["a", "B"], [10000, 1], 0), (["A", "b"], [1, 10000], 0),
    (["A", "B"], [HUGE, HUGE], 0), (["a", "ab "], [1, 1], 1), (["a" * 9, "b"], [1, 1], 0), (["a", "z" * 100], [1, 1], 1),
]


class ReportTest(PromiseCase):
    def test_to_the_sign(self):
        cluster = Cluster(Net.line(3), [0, 2, 1])
        text = ("key          0     1     2\n"
                "name         7    12    12\n"
                "size         -   -34     -")
        self.gives(text, report_text, cluster, [[0], [0, 2, 1], [0, 1]], ["name", "name", "size"], [7, 12, -34])

    def test_values_of_all_widths(self):
        cluster = Cluster(Net.line(5), [0, 1, 2, 3, 4])
        logs = [[0], [1], [2], [3], [4]]
        text = ("key          0     1     2     3     4\n"
                "k            0    10   999 -9999  9999")
        self.gives(text, report_text, cluster, logs, ["k"] * 5, [0, 10, 999, -9999, 9999])
        text = ("key          0     1     2     3     4\n"
                "k           -1   -10  -999  1000 -1000")
        self.gives(text, report_text, cluster, logs, ["k"] * 5, [-1, -10, -999, 1000, -1000])

    def test_keys_of_1_to_8_letters_in_ascending_order(self):
        cluster = Cluster(Net.line(1), [0] * 8)
        key_of = ["zzzzzzzz", "abcdefg", "abcdef", "z", "zy", "abc", "abcd", "zaaaa"]
        text = ("key          0\n"
                "abc          6\n"
                "abcd         7\n"
                "abcdef       3\n"
                "abcdefg      2\n"
                "z            4\n"
                "zaaaa        8\n"
                "zy           5\n"
                "zzzzzzzz     1")
        self.gives(text, report_text, cluster, [list(range(8))], key_of, [1, 2, 3, 4, 5, 6, 7, 8])

    def test_replicas_that_read_nothing(self):
        cluster = Cluster(Net.line(2), [0, 1])
        text = ("key          0     1\n"
                "a            -     -\n"
                "b            -     -")
        self.gives(text, report_text, cluster, [[], []], ["b", "a"], [1, 2])
        text = ("key          0     1\n"
                "a            2     -\n"
                "b            -     1")
        self.gives(text, report_text, cluster, [[1], [0]], ["b", "a"], [1, 2])

    def test_the_key_named_key(self):
        cluster = Cluster(Net.line(2), [0])
        self.gives("key          0     1\nkey          5     -", report_text, cluster, [[0], []], ["key"], [5])

    def test_no_entries(self):
        self.gives("key          0", report_text, Cluster(Net(1, []), []), [[]], [], [])
        self.gives("key          0     1", report_text, Cluster(Net(2, []), []), [[], []], [], [])

    def test_24_replicas(self):
        cluster = Cluster(Net.line(24), [23])
        header = "key     " + "".join(f"{x:>6}" for x in range(24))
        self.assertTrue(header.endswith("     9    10    11    12    13    14    15    16    17    18    19    20"
                                        "    21    22    23"))
        logs = [[] for _ in range(23)] + [[0]]
        self.gives(header + "\na       " + "     -" * 23 + " -9999", report_text, cluster, logs, ["a"], [-9999])
        self.gives(header, report_text, Cluster(Net.ring(24), []), [[] for _ in range(24)], [], [])

    def test_the_net_may_be_of_any_kind_and_the_logs_need_not_be_reachable(self):
        cluster = Cluster(Net(2, []), [0, 0])
        text = ("key          0     1\n"
                "a            1     2")
        self.gives(text, report_text, cluster, [[1, 0], [1]], ["a", "a"], [1, 2])

    def test_errors_in_their_order(self):
        cluster = Cluster(Net.line(2), [0, 1])
        for key_of, value_of, entry in WRONG:
            self.fails(f"InvalidData(entry={entry})", report_text, cluster, [[], [0, 1]], key_of, value_of)
            # A desk takes the same keys and values.
            self.fails(f"InvalidData(entry={entry})", Desk, cluster, key_of, value_of)
            self.fails("InvalidLogs(replica=0)", report_text, cluster, [[2], [0, 0]], key_of, value_of)
            self.fails("InvalidLogs(replica=None)", report_text, cluster, [[]], key_of, value_of)
        self.fails("InvalidLogs(replica=1)", report_text, cluster, [[0], [0, 0]], ["a", "b"], [1, 2])

    def test_the_least_entry_that_is_not_valid(self):
        cluster = Cluster(Net.line(2), [0] * 60)
        for entry in (0, 1, 30, 59):
            keys, values = ["a"] * 60, [0] * 60
            keys[entry] = "A"
            self.fails(f"InvalidData(entry={entry})", report_text, cluster, [[], []], keys, values)
            self.fails(f"InvalidData(entry={entry})", Desk, cluster, keys, values)
            keys[59] = ""
            values[entry] = 10000
            self.fails(f"InvalidData(entry={entry})", report_text, cluster, [[], []], keys, values)
            self.fails(f"InvalidData(entry={entry})", Desk, cluster, ["a"] * 60, values)

    def test_the_keys_and_values_at_the_edges(self):
        cluster = Cluster(Net.line(1), [0, 0])
        for letter in string.ascii_lowercase:
            for many in (1, 8):
                text = f"key          0\n{(letter * many).ljust(8)}     1"
                self.gives(text, report_text, cluster, [[1, 0]], [letter * many] * 2, [1, 2])
        for value in (-9999, 9999, 0):
            self.assertEqual(self.ask(report_text, cluster, [[0]], ["a", "a"], [value, 1])[-6:], f"{value:6}")

    def test_against_its_description(self):
        for chance in chances(80, "reports"):
            cluster = some_cluster(chance)
            logs = some_logs(chance, cluster)
            keys = ["".join(chance.choice("abyz") for _ in range(chance.randint(1, 8))) for _ in range(3)]
            key_of = [chance.choice(keys) for _ in cluster.homes]
            value_of = [chance.randint(-9999, 9999) // chance.choice([1, 10, 100, 5000]) for _ in cluster.homes]
            self.gives(naive_report(cluster, logs, key_of, value_of), report_text, cluster, logs, key_of, value_of)

    def test_the_largest_cluster(self):
        cluster = Cluster(Net.star(24), [(7 * entry) % 24 for entry in range(60)])
        key_of = [f"{string.ascii_lowercase[entry % 26] * (entry % 8 + 1)}" for entry in range(60)]
        value_of = [300 * entry - 9000 for entry in range(60)]
        logs = [list(range(60))[x:] for x in range(24)]
        self.gives(naive_report(cluster, logs, key_of, value_of), report_text, cluster, logs, key_of, value_of)


if __name__ == "__main__":
    unittest.main()
