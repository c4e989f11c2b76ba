"""Needed, lean and helpful links, and suspects: point 36, and the heading pullstore/links.py."""

import itertools
import unittest

from helpers import (
    HUGE, PromiseCase, all_logs, all_nets, all_reached, begins, chances, cut_logs, naive_audit, naive_carries,
    naive_reachable, naive_roots, plain, reached_from, some_cluster, some_logs, some_run, unreachable,
)
from pullstore.audit import audit, reachable
from pullstore.cluster import Cluster
from pullstore.evidence import Barrier, PrefixFault
from pullstore.finish import finished_logs
from pullstore.links import helpful_links, lean_net, needed_links, suspects
from pullstore.net import Net


def on_links(cluster, links):
    """The cluster on a net with these links."""
    return Cluster(Net(cluster.net.count, links), cluster.homes)


def leads(cluster, start, goal):
    """Whether a run leads from the start to the goal, as point 14 says."""
    if not begins(start, goal):
        return False
    for entry in range(cluster.size):
        links = [link for link in cluster.net.links if naive_carries(goal, *link, entry)]
        reached = reached_from(links, naive_roots(cluster, start, goal, entry))
        if any(entry in log and x not in reached for x, log in enumerate(goal)):
            return False
    return True


def naive_needed(cluster, start, goal):
    links = cluster.net.links
    return [link for link in links if not leads(on_links(cluster, [one for one in links if one != link]), start, goal)]


def naive_lean(cluster, start, goal):
    """The links that are left, by going through them in ascending order."""
    left = cluster.net.links
    for link in cluster.net.links:
        fewer = [one for one in left if one != link]
        if leads(on_links(cluster, fewer), start, goal):
            left = fewer
    return left


def naive_helpful(cluster, start, goal):
    if leads(cluster, start, goal):
        return []
    replicas = range(cluster.net.count)
    absent = [(x, y) for x in replicas for y in replicas if x != y and (x, y) not in cluster.net.links]
    return [link for link in absent if leads(on_links(cluster, cluster.net.links + [link]), start, goal)]


def naive_suspects(cluster, goal):
    if naive_reachable(cluster, goal):
        return []
    less = {entry: [[one for one in log if one != entry] for log in goal] for entry in range(cluster.size)}
    return [entry for entry in range(cluster.size) if naive_reachable(cluster, less[entry])]


class LinksCase(PromiseCase):
    def check(self, cluster, start, goal):
        """All four functions against the words of the document."""
        if leads(cluster, start, goal):
            self.gives(naive_needed(cluster, start, goal), needed_links, cluster, start, goal)
            lean = ("Net", cluster.net.count, naive_lean(cluster, start, goal))
            self.gives(lean, lean_net, cluster, start, goal)
        else:
            error = unreachable(naive_audit(cluster, start, goal))
            self.fails(error, needed_links, cluster, start, goal)
            self.fails(error, lean_net, cluster, start, goal)
        self.gives(naive_helpful(cluster, start, goal), helpful_links, cluster, start, goal)
        self.gives(naive_suspects(cluster, goal), suspects, cluster, goal)


class ReachableGoalTest(LinksCase):
    def test_needed_links(self):
        cluster = Cluster(Net.line(3), [0])
        empty = [[], [], []]
        self.gives([(0, 1), (1, 2)], needed_links, cluster, empty, [[0], [0], [0]])
        self.gives([(0, 1)], needed_links, cluster, empty, [[0], [0], []])
        self.gives([], needed_links, cluster, empty, [[0], [], []])
        self.gives([], needed_links, cluster, empty, empty)
        # With what the start has already, fewer links are needed.
        self.gives([(1, 2)], needed_links, cluster, [[0], [0], []], [[0], [0], [0]])

    def test_a_link_that_another_one_can_stand_in_for_is_not_needed(self):
        cluster = Cluster(Net.complete(3), [0])
        self.gives([], needed_links, cluster, [[], [], []], [[0], [0], [0]])
        self.gives([], needed_links, Cluster(Net.line(3), [0]), [[0], [], [0]], [[0], [0], [0]])
        self.gives([(0, 1)], needed_links, cluster, [[], [], []], [[0], [0], []])
        # Only one of the two links to 2 carries entry 1, which needs it.
        cluster = Cluster(Net.complete(3), [0, 1])
        self.gives([(1, 2)], needed_links, cluster, [[0], [0], [0]], [[0], [0, 1], [0, 1]])

    def test_the_lean_net_goes_through_the_links_in_ascending_order(self):
        cluster = Cluster(Net.complete(3), [0])
        goal = [[0], [0], [0]]
        # (0, 1) and (0, 2) go one after the other as long as a way is left.
        self.gives(("Net", 3, [(0, 2), (2, 1)]), lean_net, cluster, [[], [], []], goal)
        self.gives(("Net", 3, [(2, 1)]), lean_net, cluster, [[0], [], [0]], goal)
        self.gives(("Net", 3, [(1, 2)]), lean_net, cluster, [[0], [0], []], goal)
        self.gives(("Net", 3, []), lean_net, cluster, goal, goal)
        self.gives(("Net", 3, []), lean_net, cluster, [[], [], []], [[0], [], []])

    def test_the_lean_net_is_a_new_net(self):
        cluster = Cluster(Net.line(2), [0])
        found = lean_net(cluster, [[], []], [[0], [0]])
        self.assertEqual(plain(found), ("Net", 2, [(0, 1)]))
        self.assertEqual(cluster.net.links, [(0, 1), (1, 0)])
        self.assertEqual(plain(lean_net(Cluster(Net(1, []), []), [[]], [[]])), ("Net", 1, []))

    def test_no_helpful_links_and_no_suspects(self):
        cluster = Cluster(Net.line(3), [0, 2])
        for goal in ([[], [], []], [[0], [0], [0]], [[0, 1], [0, 1], [1, 0]]):
            self.gives([], helpful_links, cluster, [[], [], []], goal)
            self.gives([], suspects, cluster, goal)


class GoalThatIsNotReachableTest(LinksCase):
    def test_unreachable_with_the_evidence_of_the_audit(self):
        cluster = Cluster(Net(3, [(0, 1)]), [0, 0])
        for function in (needed_links, lean_net):
            goal = [[0], [0], [0]]
            self.fails(unreachable(Barrier(0, [0, 1])), function, cluster, [[], [], []], goal)
            self.fails(unreachable(PrefixFault(1)), function, cluster, [[0], [1], []], goal)
            self.fails(unreachable(PrefixFault(0)), function, cluster, [[1], [1], []], goal)
            goal = [[0, 1], [1], []]
            self.fails(unreachable(audit(cluster, [[], [], []], goal)), function, cluster, [[], [], []], goal)

    def test_helpful_links(self):
        cluster = Cluster(Net(3, [(0, 1)]), [0])
        self.gives([(0, 2), (1, 2)], helpful_links, cluster, [[], [], []], [[0], [0], [0]])
        self.gives([(0, 2)], helpful_links, cluster, [[], [], []], [[0], [], [0]])
        # One link is not enough for two replicas.
        self.gives([], helpful_links, Cluster(Net(3, []), [0]), [[], [], []], [[0], [0], [0]])
        # A link helps others through its reader.
        self.gives([(0, 1), (0, 2)], helpful_links, Cluster(Net.both_ways(3, [(1, 2)]), [0]),
                   [[], [], []], [[0], [0], [0]])

    def test_a_helpful_link_carries_each_entry_that_lacks_one(self):
        cluster = Cluster(Net(3, [(0, 1), (1, 0)]), [0, 1])
        # From 0, only entry 0 can be pulled first; from 1, only entry 1.
        self.gives([(0, 2)], helpful_links, cluster, [[], [], []], [[0, 1], [1, 0], [0, 1]])
        self.gives([(1, 2)], helpful_links, cluster, [[], [], []], [[0, 1], [1, 0], [1, 0]])
        self.gives([(0, 2), (1, 2)], helpful_links, cluster, [[], [], []], [[0, 1], [0, 1], [0, 1]])
        # Entry 0 must come from 0 and entry 1 from 1: no single link does both.
        self.gives([], helpful_links, cluster, [[], [], []], [[0], [1], [0, 1]])

    def test_no_link_helps(self):
        cluster = Cluster(Net.line(2), [0, 0])
        # Nothing brings an entry that its home does not hold, and no link is absent.
        self.gives([], helpful_links, cluster, [[], []], [[], [0]])
        self.gives([], helpful_links, cluster, [[], []], [[0, 1], [1]])
        self.gives([], helpful_links, Cluster(Net(2, []), [0]), [[], []], [[], [0]])
        self.gives([(0, 1)], helpful_links, Cluster(Net(2, []), [0]), [[], []], [[0], [0]])

    def test_a_start_that_is_no_prefix_of_the_goal(self):
        cluster = Cluster(Net(3, [(0, 1)]), [0, 0])
        for start in ([[1], [], []], [[], [1], []], [[0], [0], [1]]):
            self.gives([], helpful_links, cluster, start, [[0], [0], [0]])
        self.gives([(0, 2), (1, 2)], helpful_links, cluster, [[0], [], []], [[0], [0], [0]])

    def test_the_start_counts(self):
        cluster = Cluster(Net(3, []), [0])
        self.gives([(0, 1), (2, 1)], helpful_links, cluster, [[0], [], [0]], [[0], [0], [0]])
        self.gives([(2, 0)], helpful_links, cluster, [[], [], [0]], [[0], [], [0]])

    def test_suspects(self):
        cluster = Cluster(Net.line(2), [0, 0, 1])
        # Entry 0 keeps 1 from being pulled, and the goal does without either of them.
        self.gives([0, 1], suspects, cluster, [[0, 1], [1]])
        self.gives([0], suspects, cluster, [[], [0]])
        self.gives([], suspects, cluster, [[], [0, 1]])
        self.gives([0, 1], suspects, cluster, [[0, 1, 2], [2, 1]])
        self.gives([0, 1], suspects, cluster, [[0, 1], [1, 0]])

    def test_suspects_start_from_the_empty_logs(self):
        cluster = Cluster(Net(2, []), [0, 0])
        self.gives([0], suspects, cluster, [[0, 1], [0]])
        self.gives([], suspects, cluster, [[0, 1], [0, 1]])

    def test_invalid_logs(self):
        cluster = Cluster(Net.line(2), [0, 1])
        for function in (needed_links, lean_net, helpful_links):
            self.fails("InvalidLogs(replica=1)", function, cluster, [[], [2]], [[2], []])
            self.fails("InvalidLogs(replica=0)", function, cluster, [[], []], [[1, 1], []])
            self.fails("InvalidLogs(replica=None)", function, cluster, [[]], [[2], []])
            self.fails("InvalidLogs(replica=None)", function, cluster, [[0], []], [[1], [], []])
            self.fails("InvalidLogs(replica=1)", function, cluster, [[1], []], [[0], [HUGE]])
        self.fails("InvalidLogs(replica=0)", suspects, cluster, [[2], [0, 0]])
        self.fails("InvalidLogs(replica=None)", suspects, cluster, [])


class WordsTest(LinksCase):
    def test_against_the_words_of_the_document(self):
        for chance in chances(150, "links"):
            cluster = some_cluster(chance, 4)
            start = [[] for _ in range(cluster.net.count)]
            if chance.random() < 0.3:
                start = some_logs(chance, cluster)
            goal = some_logs(chance, cluster)
            if chance.random() < 0.7:
                full = Cluster(Net.complete(cluster.net.count), cluster.homes)
                _, goal = some_run(chance, chance.choice([full, cluster]), start, 15)
            if chance.random() < 0.3:
                start = cut_logs(chance, goal)
            self.check(cluster, start, goal)

    def test_against_a_search_through_all_runs(self):
        worlds = [(net, [0, 0]) for net in all_nets(2)] + [(net, [0, 1]) for net in all_nets(2)]
        worlds += [(net, [1]) for net in all_nets(3)]
        for net, homes in worlds:
            cluster = Cluster(net, homes)
            empty = [[] for _ in range(net.count)]
            replicas = range(net.count)
            reached = {links: all_reached(on_links(cluster, list(links)), empty)
                       for links in self.beside(net.links, itertools.permutations(replicas, 2))}
            for goal in all_logs(cluster):
                here = repr(goal) in reached[tuple(net.links)]
                found = [links for links in reached if repr(goal) in reached[links]]
                if here:
                    needed = [link for link in net.links
                              if tuple(one for one in net.links if one != link) not in found]
                    self.assertEqual(needed_links(cluster, empty, goal), needed)
                    lean = lean_net(cluster, empty, goal).links
                    self.assertIn(repr(goal), all_reached(on_links(cluster, lean), empty))
                    for link in lean:
                        less = [one for one in lean if one != link]
                        self.assertNotIn(repr(goal), all_reached(on_links(cluster, less), empty))
                helpful = [] if here else [link for links in found for link in links if link not in net.links]
                self.assertEqual(helpful_links(cluster, empty, goal), helpful)

    def beside(self, links, pairs):
        """These links, and with one of the pairs more or less, as tuples."""
        yield tuple(links)
        for pair in sorted(pairs):
            more = [one for one in links if one != pair]
            yield tuple(more) if pair in links else tuple(sorted(links + [pair]))

    def test_adding_links_never_makes_a_reachable_goal_unreachable(self):
        for chance in chances(40, "more links"):
            cluster = some_cluster(chance, 4)
            empty = [[] for _ in range(cluster.net.count)]
            _, goal = some_run(chance, cluster, empty, 15)
            full = Cluster(Net.complete(cluster.net.count), cluster.homes)
            self.assertTrue(reachable(full, empty, goal))
            lean = cluster.on_net(lean_net(cluster, empty, goal))
            self.assertTrue(reachable(lean, empty, goal))
            self.gives(lean.net.links, needed_links, lean, empty, goal)

    def test_the_largest_cluster(self):
        homes = [(7 * entry) % 24 for entry in range(60)]
        empty = [[] for _ in range(24)]
        for net in (Net.line(24), Net.ring(24)):
            cluster = Cluster(net, homes)
            goal = finished_logs(cluster, empty)
            self.assertEqual(needed_links(cluster, empty, goal), net.links)
            self.assertEqual(lean_net(cluster, empty, goal).links, net.links)
            less = cluster.on_net(net.without_link(5, 6))
            self.assertIn((5, 6), helpful_links(less, empty, goal))
            self.assertEqual(suspects(less, goal), [])
        cluster = Cluster(Net.complete(24), homes)
        goal = finished_logs(cluster, empty)
        lean = lean_net(cluster, empty, goal)
        self.assertLessEqual(set(needed_links(cluster, empty, goal)), set(lean.links))
        self.assertEqual(needed_links(cluster.on_net(lean), empty, goal), lean.links)
        # One entry at one replica stands in front of all that it should come behind.
        goal[3].remove(59)
        goal[3].insert(0, 59)
        self.assertEqual(helpful_links(cluster, empty, goal), [])
        self.assertEqual(suspects(cluster, goal), [59])


if __name__ == "__main__":
    unittest.main()
