"""Nets: point 3, and the heading pullstore/net.py."""

import itertools
import unittest

from helpers import HUGE, PromiseCase, all_nets
from pullstore.net import Net

WRONG_COUNTS = [0, -1, 25, 26, 10 ** 29, -(10 ** 29), HUGE, -HUGE]
NO_REPLICAS = [-1, -3, 3, 4, HUGE, -HUGE]


class MakingTest(PromiseCase):
    def test_most_is_24(self):
        self.gives(24, lambda: Net.MOST)
        self.gives(24, lambda: Net(1, []).MOST)

    def test_a_net_has_its_count_and_its_links(self):
        self.gives(("Net", 3, [(0, 1), (2, 0)]), Net, 3, [(0, 1), (2, 0)])
        self.gives(("Net", 1, []), Net, 1, [])
        self.gives(("Net", 24, [(0, 23), (23, 0)]), Net, 24, [(0, 23), (23, 0)])

    def test_links_ascend_in_whatever_order_they_are_given(self):
        links = [(0, 2), (1, 0), (2, 0), (2, 1)]
        for given in itertools.permutations(links):
            self.gives(("Net", 3, links), Net, 3, list(given))

    def test_a_link_that_is_given_twice_counts_once(self):
        self.gives(("Net", 2, [(0, 1)]), Net, 2, [(0, 1), (0, 1)])
        self.gives(("Net", 3, [(0, 1), (1, 2)]), Net, 3, [(1, 2), (0, 1), (1, 2), (0, 1)])

    def test_links_ascend_as_tuples_of_integers(self):
        self.gives([(2, 10), (10, 2), (10, 11)], lambda: Net(12, [(10, 11), (10, 2), (2, 10)]).links)

    def test_the_count_is_from_1_to_24(self):
        for count in range(1, 25):
            self.gives(("Net", count, []), Net, count, [])
        for count in WRONG_COUNTS:
            self.fails("InvalidNet(link=None)", Net, count, [])

    def test_the_count_is_checked_before_the_links(self):
        for count in WRONG_COUNTS:
            self.fails("InvalidNet(link=None)", Net, count, [(0, 0), (5, -5)])

    def test_the_first_pair_that_is_not_a_link_is_told(self):
        self.fails("InvalidNet(link=(1, 2))", Net, 2, [(0, 1), (1, 2), (3, 3)])
        self.fails("InvalidNet(link=(3, 3))", Net, 2, [(0, 1), (3, 3), (1, 2)])
        self.fails("InvalidNet(link=(0, 0))", Net, 1, [(0, 0)])
        self.fails("InvalidNet(link=(1, 1))", Net, 3, [(2, 1), (1, 1), (0, 0)])
        # Neither the least nor the last one, but the first one.
        self.fails("InvalidNet(link=(2, 5))", Net, 3, [(2, 5), (0, 0), (2, 2)])

    def test_each_of_the_two_integers_must_be_a_replica(self):
        for wrong in NO_REPLICAS:
            self.fails(f"InvalidNet(link=({wrong}, 1))", Net, 3, [(0, 1), (wrong, 1)])
            self.fails(f"InvalidNet(link=(1, {wrong}))", Net, 3, [(0, 1), (1, wrong)])
            self.fails(f"InvalidNet(link=({wrong}, {wrong}))", Net, 3, [(wrong, wrong)])
        self.fails("InvalidNet(link=(0, 24))", Net, 24, [(0, 23), (0, 24)])

    def test_later_changes_to_the_given_links_have_no_effect(self):
        links = [(0, 1)]
        net = Net(3, links)
        links.append((1, 2))
        links[0] = (2, 0)
        self.assertEqual(net.links, [(0, 1)])

    def test_every_small_net_is_made_as_given(self):
        for net in all_nets(3):
            self.assertEqual(net.links, sorted(net.links))
            self.gives(plain_net(3, net.links), Net, 3, net.links[::-1])


def plain_net(count, links):
    return ("Net", count, links)


class BothWaysTest(PromiseCase):
    def test_it_has_both_links_of_each_pair(self):
        self.gives(("Net", 3, [(0, 2), (1, 2), (2, 0), (2, 1)]), Net.both_ways, 3, [(2, 1), (0, 2)])
        self.gives(("Net", 2, []), Net.both_ways, 2, [])

    def test_pairs_that_are_given_twice_or_turned_count_once(self):
        self.gives(("Net", 3, [(0, 1), (1, 0)]), Net.both_ways, 3, [(1, 0), (0, 1), (1, 0)])

    def test_the_count_is_from_1_to_24(self):
        self.gives(("Net", 1, []), Net.both_ways, 1, [])
        self.gives(("Net", 24, [(0, 23), (23, 0)]), Net.both_ways, 24, [(23, 0)])
        for count in WRONG_COUNTS:
            self.fails("InvalidNet(link=None)", Net.both_ways, count, [])
            self.fails("InvalidNet(link=None)", Net.both_ways, count, [(0, 1), (4, 4)])

    def test_the_first_wrong_pair_is_told_as_it_was_given(self):
        self.fails("InvalidNet(link=(3, 1))", Net.both_ways, 3, [(0, 1), (3, 1), (0, 5)])
        self.fails("InvalidNet(link=(1, 3))", Net.both_ways, 3, [(1, 3)])
        self.fails("InvalidNet(link=(2, 2))", Net.both_ways, 3, [(2, 2), (1, 3)])
        for wrong in NO_REPLICAS:
            self.fails(f"InvalidNet(link=({wrong}, 1))", Net.both_ways, 3, [(0, 1), (wrong, 1)])
            self.fails(f"InvalidNet(link=(1, {wrong}))", Net.both_ways, 3, [(0, 1), (1, wrong)])


class NamedNetsTest(PromiseCase):
    def test_count_1_gives_a_net_without_links(self):
        for made in (Net.line, Net.star, Net.complete, Net.ring):
            self.gives(("Net", 1, []), made, 1)

    def test_count_2_gives_both_links(self):
        for made in (Net.line, Net.star, Net.complete, Net.ring):
            self.gives(("Net", 2, [(0, 1), (1, 0)]), made, 2)

    def test_count_3(self):
        self.gives(("Net", 3, [(0, 1), (1, 0), (1, 2), (2, 1)]), Net.line, 3)
        self.gives(("Net", 3, [(0, 1), (0, 2), (1, 0), (2, 0)]), Net.star, 3)
        every = [(0, 1), (0, 2), (1, 0), (1, 2), (2, 0), (2, 1)]
        self.gives(("Net", 3, every), Net.complete, 3)
        self.gives(("Net", 3, [(0, 1), (1, 2), (2, 0)]), Net.ring, 3)

    def test_counts_up_to_24(self):
        for count in range(2, 25):
            ids = range(count)
            line = [(x, y) for x in ids for y in ids if abs(x - y) == 1]
            star = [(x, y) for x in ids for y in ids if (x == 0) != (y == 0)]
            every = [(x, y) for x in ids for y in ids if x != y]
            ring = [(x, x + 1) for x in range(count - 1)] + [(count - 1, 0)]
            self.gives(("Net", count, line), Net.line, count)
            self.gives(("Net", count, star), Net.star, count)
            self.gives(("Net", count, every), Net.complete, count)
            self.gives(("Net", count, sorted(ring)), Net.ring, count)

    def test_counts_out_of_range(self):
        for made in (Net.line, Net.star, Net.complete, Net.ring):
            for count in WRONG_COUNTS:
                self.fails("InvalidNet(link=None)", made, count)


class AskingTest(PromiseCase):
    def setUp(self):
        self.net = Net(3, [(2, 0), (0, 1), (1, 0), (2, 1)])

    def test_links_cannot_be_assigned(self):
        with self.assertRaises(AttributeError):
            self.net.links = []
        self.assertEqual(self.net.links, [(0, 1), (1, 0), (2, 0), (2, 1)])

    def test_links_that_were_returned_are_new(self):
        self.net.links.clear()
        self.assertEqual(self.net.links, [(0, 1), (1, 0), (2, 0), (2, 1)])
        self.assertIsNot(self.net.links, self.net.links)

    def test_sources_and_readers(self):
        self.gives([1, 2], self.net.sources, 0)
        self.gives([0, 2], self.net.sources, 1)
        self.gives([], self.net.sources, 2)
        self.gives([1], self.net.readers, 0)
        self.gives([0], self.net.readers, 1)
        self.gives([0, 1], self.net.readers, 2)

    def test_sources_and_readers_of_every_small_net(self):
        for net in all_nets(3):
            for replica in range(3):
                self.assertEqual(net.sources(replica), [x for x in range(3) if (x, replica) in net.links])
                self.assertEqual(net.readers(replica), [x for x in range(3) if (replica, x) in net.links])

    def test_sources_and_readers_of_no_replica(self):
        for wrong in NO_REPLICAS:
            self.fails(f"UnknownReplica(replica={wrong})", self.net.sources, wrong)
            self.fails(f"UnknownReplica(replica={wrong})", self.net.readers, wrong)

    def test_has_link(self):
        for net in all_nets(3):
            for source in range(3):
                for reader in range(3):
                    self.assertIs(net.has_link(source, reader), (source, reader) in net.links)
        self.gives(True, self.net.has_link, 2, 1)
        self.gives(False, self.net.has_link, 1, 2)

    def test_has_link_is_false_for_integers_that_are_no_replicas(self):
        # In a complete net a negative index would find a link.
        net = Net.complete(3)
        for wrong in NO_REPLICAS:
            self.gives(False, net.has_link, wrong, 0)
            self.gives(False, net.has_link, 0, wrong)
            self.gives(False, net.has_link, wrong, wrong)
        self.gives(False, net.has_link, -3, -2)


class ChangedNetsTest(PromiseCase):
    def setUp(self):
        self.net = Net(3, [(0, 1), (2, 0)])

    def test_with_link(self):
        self.gives(("Net", 3, [(0, 1), (1, 2), (2, 0)]), self.net.with_link, 1, 2)
        self.gives(("Net", 3, [(0, 1), (1, 0), (2, 0)]), self.net.with_link, 1, 0)
        self.assertEqual(self.net.links, [(0, 1), (2, 0)])

    def test_with_a_link_that_is_there(self):
        self.gives(("Net", 3, [(0, 1), (2, 0)]), self.net.with_link, 0, 1)
        self.assertIsNot(self.net.with_link(0, 1), self.net)

    def test_with_what_is_no_link(self):
        for replica in range(3):
            error = f"InvalidNet(link=({replica}, {replica}))"
            self.fails(error, self.net.with_link, replica, replica)
        for wrong in NO_REPLICAS:
            self.fails(f"InvalidNet(link=({wrong}, 1))", self.net.with_link, wrong, 1)
            self.fails(f"InvalidNet(link=(1, {wrong}))", self.net.with_link, 1, wrong)
            self.fails(f"InvalidNet(link=({wrong}, {wrong}))", self.net.with_link, wrong, wrong)
        self.assertEqual(self.net.links, [(0, 1), (2, 0)])

    def test_without_link(self):
        self.gives(("Net", 3, [(2, 0)]), self.net.without_link, 0, 1)
        self.gives(("Net", 3, [(0, 1)]), self.net.without_link, 2, 0)
        self.assertEqual(self.net.links, [(0, 1), (2, 0)])

    def test_without_link_leaves_the_other_direction(self):
        self.gives(("Net", 2, [(1, 0)]), Net.line(2).without_link, 0, 1)

    def test_without_a_link_that_is_not_there(self):
        for source, reader in [(1, 0), (0, 2), (1, 1), (1, 2)]:
            error = f"NotLinked(source={source}, reader={reader})"
            self.fails(error, self.net.without_link, source, reader)
        for wrong in NO_REPLICAS:
            self.fails(f"NotLinked(source={wrong}, reader=1)", self.net.without_link, wrong, 1)
            self.fails(f"NotLinked(source=0, reader={wrong})", self.net.without_link, 0, wrong)
        self.assertEqual(self.net.links, [(0, 1), (2, 0)])

    def test_the_count_stays(self):
        self.assertEqual(Net(24, []).with_link(23, 0).count, 24)
        self.assertEqual(Net.line(24).without_link(23, 22).count, 24)


if __name__ == "__main__":
    unittest.main()
