"""Clusters: point 5, and the heading pullstore/cluster.py."""

import unittest

from helpers import HUGE, NOWHERE, PromiseCase, chances, some_net
from pullstore.cluster import Cluster
from pullstore.net import Net


class ClusterTest(PromiseCase):
    def setUp(self):
        self.cluster = Cluster(Net.line(3), [2, 0, 2, 2])

    def test_most_is_60(self):
        self.gives(60, lambda: Cluster.MOST)
        self.gives(60, lambda: self.cluster.MOST)

    def test_a_cluster_has_its_net_its_size_and_its_homes(self):
        net = ("Net", 3, [(0, 1), (1, 0), (1, 2), (2, 1)])
        self.gives(("Cluster", net, 4, [2, 0, 2, 2]), Cluster, Net.line(3), [2, 0, 2, 2])
        self.gives(("Cluster", ("Net", 1, []), 0, []), Cluster, Net(1, []), [])
        self.assertEqual(self.cluster.net.links, Net.line(3).links)
        self.assertEqual(self.cluster.net.count, 3)

    def test_up_to_60_entries(self):
        self.gives(60, lambda: Cluster(Net.line(2), [1] * 60).size)
        self.fails("InvalidHomes(entry=None)", Cluster, Net.line(2), [1] * 61)
        self.fails("InvalidHomes(entry=None)", Cluster, Net.line(2), [0] * 400)

    def test_the_number_is_checked_before_the_homes(self):
        self.fails("InvalidHomes(entry=None)", Cluster, Net.line(2), [9] * 61)
        self.fails("InvalidHomes(entry=0)", Cluster, Net.line(2), [9] * 60)

    def test_the_least_entry_whose_home_is_no_replica(self):
        for wrong in [3, 4, *NOWHERE]:
            self.fails("InvalidHomes(entry=0)", Cluster, Net.line(3), [wrong])
            self.fails("InvalidHomes(entry=2)", Cluster, Net.line(3), [0, 2, wrong, 1, -5])
        self.fails("InvalidHomes(entry=59)", Cluster, Net.line(3), [2] * 59 + [3])

    def test_homes_cannot_be_assigned(self):
        with self.assertRaises(AttributeError):
            self.cluster.homes = [0]
        self.assertEqual(self.cluster.homes, [2, 0, 2, 2])

    def test_homes_that_were_returned_are_new(self):
        self.cluster.homes.clear()
        self.assertEqual(self.cluster.homes, [2, 0, 2, 2])
        self.assertIsNot(self.cluster.homes, self.cluster.homes)

    def test_later_changes_to_the_given_homes_have_no_effect(self):
        homes = [0, 1]
        cluster = Cluster(Net.line(2), homes)
        homes[0] = 1
        homes.append(0)
        self.assertEqual([cluster.homes, cluster.size, cluster.home_of(0)], [[0, 1], 2, 0])
        self.assertEqual(cluster.entries_at(1), [1])

    def test_home_of(self):
        for entry, home in enumerate([2, 0, 2, 2]):
            self.gives(home, self.cluster.home_of, entry)
        for wrong in [4, 5, *NOWHERE]:
            self.fails(f"UnknownEntry(entry={wrong})", self.cluster.home_of, wrong)
        self.fails("UnknownEntry(entry=0)", Cluster(Net.line(3), []).home_of, 0)

    def test_entries_at(self):
        self.gives([1], self.cluster.entries_at, 0)
        self.gives([], self.cluster.entries_at, 1)
        self.gives([0, 2, 3], self.cluster.entries_at, 2)
        for wrong in [3, 4, *NOWHERE]:
            self.fails(f"UnknownReplica(replica={wrong})", self.cluster.entries_at, wrong)

    def test_on_net(self):
        net = Net.ring(4)
        self.gives(("Cluster", ("Net", 4, net.links), 4, [2, 0, 2, 2]), self.cluster.on_net, net)
        self.assertEqual(self.cluster.net.links, Net.line(3).links)
        for wrong in (Net.line(2), Net(1, [])):
            self.fails("InvalidHomes(entry=0)", self.cluster.on_net, wrong)
        self.fails("InvalidHomes(entry=2)", Cluster(Net.line(3), [0, 1, 2, 2]).on_net, Net.line(2))

    def test_on_net_is_a_cluster_of_its_own(self):
        other = self.cluster.on_net(Net(3, []))
        other.homes.append(7)
        self.assertEqual(self.cluster.homes, [2, 0, 2, 2])
        self.assertEqual([other.size, other.net.links, other.home_of(1)], [4, [], 0])

    def test_homes_and_entries_belong_together(self):
        for chance in chances(100, "cluster"):
            net = some_net(chance)
            homes = [chance.randrange(net.count) for _ in range(chance.randint(0, 60))]
            cluster = Cluster(net, homes)
            self.assertEqual([cluster.homes, cluster.size], [homes, len(homes)])
            self.assertEqual([cluster.home_of(entry) for entry in range(len(homes))], homes)
            for replica in range(net.count):
                here = [entry for entry, home in enumerate(homes) if home == replica]
                self.assertEqual(cluster.entries_at(replica), here)

    def test_integers_of_30_digits(self):
        self.fails(f"UnknownEntry(entry={HUGE})", self.cluster.home_of, HUGE)
        self.fails(f"UnknownReplica(replica={-HUGE})", self.cluster.entries_at, -HUGE)


if __name__ == "__main__":
    unittest.main()
