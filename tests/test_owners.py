"""Unknown homes: point 35, and the heading pullstore/owners.py."""

import itertools
import unittest

from helpers import (
    HUGE, PromiseCase, all_logs, all_nets, all_reached, chances, naive_carries, reached_from, some_cluster, some_logs,
    some_run,
)
from pullstore.cluster import Cluster
from pullstore.finish import finished_logs
from pullstore.net import Net
from pullstore.owners import no_home, possible_homes

FUNCTIONS = (possible_homes, no_home)


def holders_in(logs, entry):
    return [x for x, log in enumerate(logs) if entry in log]


def naive_homes(net, logs, entry):
    """The possible homes of the entry, as point 35 says."""
    holders = holders_in(logs, entry)
    if not holders:
        return list(range(net.count))
    links = [link for link in net.links if naive_carries(logs, *link, entry)]
    return [x for x in holders if set(holders) <= set(reached_from(links, [x]))]


def naive_groups(net, logs, entry):
    """All groups of point 35, by trying all lists of holders, in the order of their least replicas."""
    links = [link for link in net.links if naive_carries(logs, *link, entry)]
    holders = holders_in(logs, entry)
    groups = []
    for many in range(1, len(holders) + 1):
        for group in itertools.combinations(holders, many):
            inside = [(x, y) for x, y in links if x in group and y in group]
            entered = [(x, y) for x, y in links if x not in group and y in group]
            if not entered and all(reached_from(inside, [x]) == list(group) for x in group):
                groups.append(list(group))
    return sorted(groups)


def naive_no_home(net, size, logs):
    for entry in range(size):
        if not naive_homes(net, logs, entry):
            one, other = naive_groups(net, logs, entry)[:2]
            return (entry, one, other)
    return None


class OwnersCase(PromiseCase):
    def check(self, net, size, logs):
        self.gives([naive_homes(net, logs, entry) for entry in range(size)], possible_homes, net, size, logs)
        self.gives(naive_no_home(net, size, logs), no_home, net, size, logs)


class PossibleHomesTest(OwnersCase):
    def test_written_and_unwritten_entries(self):
        self.gives([[0], [0, 1, 2]], possible_homes, Net.line(3), 2, [[0], [], []])
        self.gives([[0, 1], [2]], possible_homes, Net.line(3), 2, [[0], [0], [1]])
        self.gives([[1], [0]], possible_homes, Net.line(2), 2, [[1, 0], [0, 1]])
        self.gives([[0, 1, 2], [0, 1, 2]], possible_homes, Net.line(3), 2, [[], [], []])

    def test_carrying_links_only(self):
        # The blocker at 0 keeps 1 from being pulled from there.
        self.gives([[0], [1]], possible_homes, Net.line(2), 2, [[0, 1], [1]])
        self.gives([[0], [0]], possible_homes, Net(2, [(0, 1)]), 2, [[0, 1], [0, 1]])
        self.gives([[1], [0, 1]], possible_homes, Net(2, [(1, 0)]), 2, [[], [0]])

    def test_no_possible_home(self):
        self.gives([[]], possible_homes, Net(2, []), 1, [[0], [0]])
        self.gives([[]], possible_homes, Net.line(3), 1, [[0], [], [0]])
        self.gives(None, no_home, Net.line(3), 1, [[0], [0], [0]])

    def test_no_entries_and_one_replica(self):
        self.gives([], possible_homes, Net.line(2), 0, [[], []])
        self.gives(None, no_home, Net.line(2), 0, [[], []])
        self.gives([[0], [0], [0]], possible_homes, Net(1, []), 3, [[2, 0]])
        self.gives(None, no_home, Net(1, []), 3, [[2, 0]])

    def test_errors_in_their_order(self):
        net = Net.line(2)
        for function in FUNCTIONS:
            for size in (-1, -2, 61, 62, HUGE, -HUGE):
                for logs in ([[], []], [[0], [0]], [], [[7, 7], []]):
                    self.fails("InvalidHomes(entry=None)", function, net, size, logs)
            self.fails("InvalidLogs(replica=None)", function, net, 2, [[]])
            self.fails("InvalidLogs(replica=None)", function, net, 0, [[], [], []])
            self.fails("InvalidLogs(replica=1)", function, net, 2, [[0, 1], [2]])
            self.fails("InvalidLogs(replica=0)", function, net, 0, [[0], []])
            self.fails("InvalidLogs(replica=1)", function, net, 60, [[59, 0], [60]])
            self.fails("InvalidLogs(replica=0)", function, net, 2, [[1, 1], [-1]])
            self.fails("InvalidLogs(replica=0)", function, net, 2, [[HUGE], [-1]])

    def test_the_logs_are_reachable_exactly_for_the_possible_homes(self):
        worlds = [(net, 2) for net in all_nets(2)] + [(net, 1) for net in all_nets(3)]
        worlds += [(Net.line(2), 3), (Net.line(3), 2), (Net.ring(3), 2), (Net(3, [(0, 1), (2, 1), (1, 2)]), 2)]
        for net, size in worlds:
            for homes in itertools.product(range(net.count), repeat=size):
                reached = all_reached(Cluster(net, list(homes)), [[] for _ in range(net.count)])
                for logs in all_logs(Cluster(net, list(homes))):
                    possible = possible_homes(net, size, logs)
                    fits = all(home in possible[entry] for entry, home in enumerate(homes))
                    self.assertEqual(fits, repr(logs) in reached)

    def test_against_the_words_of_the_document(self):
        for chance in chances(150, "owners"):
            cluster = some_cluster(chance, 5)
            logs = some_logs(chance, cluster)
            if chance.random() < 0.6:
                _, logs = some_run(chance, cluster, [[] for _ in logs], 15)
                possible = possible_homes(cluster.net, cluster.size, logs)
                self.assertTrue(all(home in possible[entry] for entry, home in enumerate(cluster.homes)))
            self.check(cluster.net, cluster.size, logs)


class NoHomeTest(OwnersCase):
    def test_two_groups_that_cannot_be_entered(self):
        self.gives((0, [0], [1]), no_home, Net(2, []), 1, [[0], [0]])
        self.gives((0, [0], [2]), no_home, Net.line(3), 1, [[0], [], [0]])
        self.gives((0, [0, 1], [3, 4]), no_home, Net.line(5), 1, [[0], [0], [], [0], [0]])
        self.gives((0, [0], [2]), no_home, Net(4, [(0, 1), (2, 3)]), 1, [[0], [0], [0], [0]])

    def test_groups_that_can_be_entered_do_not_count(self):
        # 0 and 3 pull from 1 and 2, which are the groups.
        net = Net(4, [(1, 0), (2, 3), (0, 3)])
        self.gives((0, [1], [2]), no_home, net, 1, [[0], [0], [0], [0]])
        net = Net(5, [(4, 0), (0, 4), (3, 2), (2, 3), (0, 1), (3, 1)])
        self.gives((0, [0, 4], [2, 3]), no_home, net, 1, [[0]] * 5)

    def test_the_two_with_the_smallest_least_replicas(self):
        self.gives((0, [0], [1]), no_home, Net(4, []), 1, [[0]] * 4)
        self.gives((0, [1], [2]), no_home, Net(4, [(1, 0)]), 1, [[0]] * 4)
        net = Net(6, [(5, 1), (1, 5), (4, 2), (2, 4), (3, 0)])
        self.gives((0, [1, 5], [2, 4]), no_home, net, 1, [[0]] * 6)

    def test_the_least_entry_without_a_home(self):
        self.gives((1, [0], [2]), no_home, Net.line(3), 3, [[0, 1, 2], [0], [1, 2]])
        self.gives((0, [0], [1]), no_home, Net(2, []), 2, [[1, 0], [1, 0]])
        self.gives((2, [0], [1]), no_home, Net(2, []), 3, [[0, 2], [1, 2]])

    def test_blockers_part_the_groups(self):
        # Each of the two has something ahead that the other has not.
        self.gives((2, [0], [1]), no_home, Net.line(2), 3, [[0, 2], [1, 2]])
        self.gives(None, no_home, Net.line(2), 3, [[0, 2], [0, 1, 2]])

    def test_each_entry_without_a_home_has_two_groups(self):
        for net in [*all_nets(3), Net.line(4), Net(4, [(0, 1), (2, 1), (3, 2), (2, 3)])]:
            for many in range(1, net.count + 1):
                for holders in itertools.combinations(range(net.count), many):
                    logs = [[0] if x in holders else [] for x in range(net.count)]
                    groups = naive_groups(net, logs, 0)
                    homes = naive_homes(net, logs, 0)
                    self.assertEqual(len(groups) < 2, bool(homes))
                    self.assertEqual(possible_homes(net, 1, logs), [homes])
                    expected = None if homes else (0, *groups[:2])
                    self.assertEqual(no_home(net, 1, logs), expected)

    def test_the_largest_cluster(self):
        homes = [(7 * entry) % 24 for entry in range(60)]
        for net in (Net.line(24), Net.ring(24), Net.complete(24)):
            cluster = Cluster(net, homes)
            logs = finished_logs(cluster, [[] for _ in range(24)])
            found = possible_homes(net, 60, logs)
            self.assertTrue(all(home in found[entry] for entry, home in enumerate(homes)))
            self.assertIsNone(no_home(net, 60, logs))
            logs[3].reverse()
            entry, one, other = no_home(net, 60, logs)
            self.assertFalse(naive_homes(net, logs, entry))
            self.assertLess(one, other)


if __name__ == "__main__":
    unittest.main()
