"""Kinds of nets, what can be reached, and trees: point 4, and the heading pullstore/paths.py."""

import itertools
import unittest

from helpers import HUGE, PromiseCase, all_nets, all_trees, chances, naive_strong, reached_from, some_net
from pullstore.net import Net
from pullstore.paths import (
    is_complete, is_ring, is_strong, is_tree, is_two_way, reach_within, tree_distance, tree_path, tree_side,
)

NO_REPLICAS = [-1, -2, 5, 6, HUGE, -HUGE]


def two_way(net):
    return all((y, x) in net.links for x, y in net.links)


def tree(net):
    return two_way(net) and naive_strong(net) and len(net.links) == 2 * (net.count - 1)


def ring(net):
    last = net.count - 1
    return net.count >= 2 and net.links == sorted([(x, x + 1) for x in range(last)] + [(last, 0)])


def complete(net):
    return len(net.links) == net.count * (net.count - 1)


class ReachTest(PromiseCase):
    def test_only_along_links_between_allowed_replicas(self):
        net = Net.ring(4)
        self.gives([1, 2], reach_within, net, [1, 3], [0, 1, 2])
        self.gives([0, 1, 2, 3], reach_within, net, [2], [0, 1, 2, 3])
        self.gives([2, 3], reach_within, net, [2], [1, 2, 3])
        self.gives([2], reach_within, net, [2], [2])

    def test_links_are_followed_from_the_source_to_the_reader(self):
        net = Net(3, [(0, 1), (1, 2)])
        self.gives([0, 1, 2], reach_within, net, [0], [0, 1, 2])
        self.gives([2], reach_within, net, [2], [0, 1, 2])

    def test_starts_that_are_not_allowed_have_no_effect(self):
        self.gives([], reach_within, Net.line(3), [1], [0, 2])
        self.gives([0], reach_within, Net.line(3), [0, 1], [0])

    def test_without_starts_or_without_allowed_nothing_is_reached(self):
        self.gives([], reach_within, Net.line(3), [], [0, 1, 2])
        self.gives([], reach_within, Net.line(3), [0, 1, 2], [])

    def test_any_order_and_repeated_replicas(self):
        net = Net.line(4)
        for starts in itertools.permutations([0, 3, 3]):
            for allowed in itertools.permutations([0, 1, 3, 1]):
                self.gives([0, 1, 3], reach_within, net, list(starts), list(allowed))

    def test_every_small_net(self):
        some = [[], [0], [1], [2], [1, 0], [2, 0], [2, 1], [2, 1, 0]]
        for net in all_nets(3):
            for starts in some:
                for allowed in some:
                    links = [(x, y) for x, y in net.links if x in allowed and y in allowed]
                    expected = reached_from(links, [x for x in starts if x in allowed])
                    self.assertEqual(reach_within(net, starts, allowed), expected)

    def test_larger_nets(self):
        for chance in chances(200, "reach"):
            count = chance.randint(4, 24)
            pairs = [(x, y) for x in range(count) for y in range(count) if x != y]
            net = Net(count, chance.sample(pairs, chance.randint(0, 2 * count)))
            starts = chance.choices(range(count), k=chance.randint(0, 4))
            allowed = chance.choices(range(count), k=2 * count)
            links = [(x, y) for x, y in net.links if x in allowed and y in allowed]
            expected = reached_from(links, [x for x in starts if x in allowed])
            self.gives(expected, reach_within, net, starts, allowed)

    def test_integers_that_are_no_replicas(self):
        net = Net.complete(5)
        for wrong in NO_REPLICAS:
            error = f"UnknownReplica(replica={wrong})"
            self.fails(error, reach_within, net, [0, wrong], [0, 1])
            self.fails(error, reach_within, net, [0], [0, wrong])
            self.fails(error, reach_within, net, [], [wrong])
            self.fails(error, reach_within, net, [wrong], [])

    def test_the_first_one_is_told_first_of_the_starts_and_then_of_the_allowed(self):
        net = Net.line(3)
        self.fails("UnknownReplica(replica=9)", reach_within, net, [0, 9, 7], [8, 6])
        self.fails("UnknownReplica(replica=8)", reach_within, net, [0, 1], [2, 8, 6])
        self.fails("UnknownReplica(replica=7)", reach_within, net, [7, 9], [-1])


class KindsTest(PromiseCase):
    def check(self, net):
        self.gives(two_way(net), is_two_way, net)
        self.gives(naive_strong(net), is_strong, net)
        self.gives(tree(net), is_tree, net)
        self.gives(ring(net), is_ring, net)
        self.gives(complete(net), is_complete, net)

    def test_every_net_of_up_to_3_replicas(self):
        for count in (1, 2, 3):
            for net in all_nets(count):
                self.check(net)

    def test_one_replica(self):
        net = Net(1, [])
        for kind, expected in [(is_two_way, True), (is_strong, True), (is_tree, True),
                               (is_ring, False), (is_complete, True)]:
            self.gives(expected, kind, net)

    def test_nets_of_each_kind_and_nets_that_miss_it_by_one_link(self):
        for count in (2, 3, 4, 5):
            for made in (Net.line, Net.star, Net.ring, Net.complete):
                net = made(count)
                self.check(net)
                for x in range(count):
                    for y in range(count):
                        if x != y and net.has_link(x, y):
                            self.check(net.without_link(x, y))
                        elif x != y:
                            self.check(net.with_link(x, y))

    def test_some_nets_of_each_kind(self):
        for count in range(2, 25):
            self.gives(True, is_tree, Net.line(count))
            self.gives(True, is_tree, Net.star(count))
            self.gives(True, is_ring, Net.ring(count))
            self.gives(True, is_complete, Net.complete(count))
            self.gives(count == 2, is_ring, Net.line(count))
            self.gives(count == 2, is_two_way, Net.ring(count))
            self.gives(True, is_strong, Net.ring(count))
            self.gives(count == 2, is_tree, Net.ring(count))

    def test_a_ring_in_another_order_is_no_ring(self):
        self.gives(False, is_ring, Net(3, [(1, 0), (2, 1), (0, 2)]))
        self.gives(False, is_ring, Net(4, [(0, 2), (2, 1), (1, 3), (3, 0)]))

    def test_two_way_with_the_right_number_of_links_but_in_two_parts_is_no_tree(self):
        self.gives(False, is_tree, Net.both_ways(4, [(0, 1), (1, 2), (0, 2)]))

    def test_the_right_number_of_links_in_one_direction_is_no_tree(self):
        self.gives(False, is_tree, Net(3, [(0, 1), (1, 2), (2, 0), (0, 2)]))

    def test_strong_needs_both_directions(self):
        self.gives(False, is_strong, Net(3, [(0, 1), (0, 2), (1, 2), (2, 1)]))
        self.gives(False, is_strong, Net(3, [(1, 0), (2, 0), (1, 2), (2, 1)]))
        self.gives(False, is_strong, Net(2, []))
        self.gives(True, is_strong, Net(3, [(0, 1), (1, 2), (2, 0)]))

    def test_larger_nets(self):
        for chance in chances(150, "kinds"):
            self.check(some_net(chance))


class TreesTest(PromiseCase):
    def test_paths_distances_and_sides_on_every_tree_of_up_to_5_replicas(self):
        for count in (1, 2, 3, 4, 5):
            for pairs in all_trees(count):
                self.check_tree(Net.both_ways(count, pairs))

    def check_tree(self, net):
        everyone = range(net.count)
        for first in everyone:
            for last in everyone:
                path = tree_path(net, first, last)
                self.assertEqual([path[0], path[-1]], [first, last])
                self.assertEqual(len(path), len(set(path)))
                self.assertTrue(all(net.has_link(x, y) for x, y in zip(path, path[1:])))
                self.assertEqual(tree_distance(net, first, last), len(path) - 1)
        for source, reader in net.links:
            near = [x for x in everyone if tree_distance(net, x, source) < tree_distance(net, x, reader)]
            self.assertEqual(tree_side(net, source, reader), near)

    def test_long_trees(self):
        chain = Net.line(24)
        self.gives(list(range(24)), tree_path, chain, 0, 23)
        self.gives(list(range(23, -1, -1)), tree_path, chain, 23, 0)
        self.gives(23, tree_distance, chain, 0, 23)
        self.gives(list(range(12)), tree_side, chain, 11, 12)
        self.gives(list(range(12, 24)), tree_side, chain, 12, 11)
        star = Net.star(24)
        self.gives([7, 0, 3], tree_path, star, 7, 3)
        self.gives([7], tree_side, star, 7, 0)
        self.gives([x for x in range(24) if x != 7], tree_side, star, 0, 7)

    def test_from_a_replica_to_itself(self):
        self.gives([2], tree_path, Net.star(4), 2, 2)
        self.gives(0, tree_distance, Net.star(4), 2, 2)
        self.gives([0], tree_path, Net(1, []), 0, 0)
        self.gives(0, tree_distance, Net(1, []), 0, 0)

    def test_a_path_through_a_tree_with_branches(self):
        net = Net.both_ways(7, [(3, 5), (5, 0), (5, 6), (0, 2), (2, 4), (2, 1)])
        self.gives([3, 5, 0, 2, 1], tree_path, net, 3, 1)
        self.gives([4, 2, 0, 5, 6], tree_path, net, 4, 6)
        self.gives(4, tree_distance, net, 4, 6)
        self.gives([0, 1, 2, 4], tree_side, net, 0, 5)
        self.gives([3, 5, 6], tree_side, net, 5, 0)

    def test_not_tree_comes_first(self):
        for net in (Net.ring(3), Net.complete(3), Net(3, []), Net.line(3).without_link(0, 1)):
            for replica in (0, -1, 9, HUGE):
                self.fails("NotTree()", tree_path, net, replica, 1)
                self.fails("NotTree()", tree_path, net, 1, replica)
                self.fails("NotTree()", tree_distance, net, replica, 1)
                self.fails("NotTree()", tree_distance, net, 1, replica)
                self.fails("NotTree()", tree_side, net, replica, 1)
                self.fails("NotTree()", tree_side, net, 1, replica)

    def test_unknown_replicas(self):
        net = Net.line(5)
        for wrong in NO_REPLICAS:
            for function in (tree_path, tree_distance):
                self.fails(f"UnknownReplica(replica={wrong})", function, net, wrong, 0)
                self.fails(f"UnknownReplica(replica={wrong})", function, net, 0, wrong)
                self.fails(f"UnknownReplica(replica={wrong})", function, net, wrong, wrong)
                self.fails(f"UnknownReplica(replica={wrong})", function, net, wrong, 77)
                self.fails("UnknownReplica(replica=77)", function, net, 77, wrong)

    def test_sides_of_what_is_no_link(self):
        net = Net.line(5)
        for source, reader in [(0, 2), (2, 0), (1, 1), (4, 0)]:
            self.fails(f"NotLinked(source={source}, reader={reader})", tree_side, net, source, reader)
        for wrong in NO_REPLICAS:
            self.fails(f"NotLinked(source={wrong}, reader=0)", tree_side, net, wrong, 0)
            self.fails(f"NotLinked(source=0, reader={wrong})", tree_side, net, 0, wrong)


if __name__ == "__main__":
    unittest.main()
