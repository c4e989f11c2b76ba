"""Last entries: points 25 and 26, and the heading pullstore/lasts.py."""

import inspect
import itertools
import unittest

from helpers import (
    NO_TREES, NOT_STRONG, PromiseCase, all_logs, chances, every_choice, full_logs, path_of, reached_from, side_of,
    some_tree, strong_worlds, tree_worlds, unreachable, wrong_choices,
)
from pullstore.audit import reachable
from pullstore.cluster import Cluster
from pullstore.evidence import Barrier
from pullstore.finish import finished_logs
from pullstore.lasts import (
    complete_lasts_fault, count_lasts, each_lasts, last_entries, logs_with_lasts, split_link, tree_lasts_fault,
    two_lasts_fault,
)
from pullstore.net import Net

# A strong net of 4 replicas that is neither a tree nor complete.
RING = Net.ring(4)
NOT_COMPLETE = [Net.line(3), Net.ring(3), Net(2, [(0, 1)]), Net.complete(4).without_link(2, 1), Net(3, [])]


def possible_lasts(cluster):
    """The reprs of the last entries of all full logs that some run leads to."""
    return {repr([log[-1] for log in logs]) for logs in full_logs(cluster)}


def naive_two(cluster, choices):
    """The fault of choices of two entries as point 26 says, word by word."""
    for x, choice in enumerate(choices):
        other = next(entry for entry in choices if entry != choice)
        same = [y for y, own in enumerate(choices) if own == choice]
        links = [link for link in cluster.net.links if link[0] in same and link[1] in same]
        home = cluster.homes[other]
        if home not in same or x not in reached_from(links, [home]):
            return x
    return None


def naive_tree(cluster, choices):
    for x, y in cluster.net.links:
        if choices[x] != choices[y] and cluster.homes[choices[x]] in side_of(cluster.net, x, y):
            return (x, y)
    return None


def naive_complete(cluster, choices):
    named = sorted(set(choices))
    if len(named) == 1:
        return None
    for first, second in itertools.combinations(named, 2):
        if cluster.homes[first] == cluster.homes[second]:
            return ("same home", first, second)
    for x in sorted(cluster.homes[entry] for entry in named):
        if cluster.homes[choices[x]] == x:
            return ("own", x)
    return None


def naive_logs(cluster, choices):
    """The parts of each log as the heading says, for possible choices."""
    named = sorted(set(choices))
    logs = []
    for x, choice in enumerate(choices):
        log = [entry for entry in range(len(cluster.homes)) if entry not in named]
        rest = [entry for entry in named if entry != choice]
        log += [entry for entry in rest if cluster.homes[entry] == x]
        log += [entry for entry in rest if cluster.homes[entry] != x]
        logs.append(log + [choice])
    return logs


def naive_each(cluster):
    """All possible choices on a tree in the order that the heading gives."""
    everyone = range(cluster.net.count)
    entries = range(len(cluster.homes))
    found = [[entry for _ in everyone] for entry in entries]
    for a, b in itertools.combinations(entries, 2):
        path = path_of(cluster.net, cluster.homes[a], cluster.homes[b])
        for near, far in zip(path, path[1:]):
            side = side_of(cluster.net, near, far)
            found.append([b if x in side else a for x in everyone])
    return found


class LastEntriesTest(PromiseCase):
    def test_the_end_of_each_log(self):
        cluster = Cluster(Net.line(3), [0, 2, 2])
        self.gives([1, 0, 2], last_entries, cluster, [[0, 1], [0], [2, 1, 0][::-1]])
        self.gives([None, 2, None], last_entries, cluster, [[], [1, 2], []])
        self.gives([None, None], last_entries, Cluster(Net.line(2), []), [[], []])
        # The net may be of any kind, and the logs need not be reachable.
        self.gives([1, 0], last_entries, Cluster(Net(2, []), [0, 0]), [[1], [1, 0]])

    def test_invalid_logs(self):
        cluster = Cluster(Net.line(2), [0, 1])
        self.fails("InvalidLogs(replica=1)", last_entries, cluster, [[], [2]])
        self.fails("InvalidLogs(replica=0)", last_entries, cluster, [[0, 0], [2]])
        self.fails("InvalidLogs(replica=None)", last_entries, cluster, [[]])


class SplitLinkTest(PromiseCase):
    def test_where_the_last_entries_part(self):
        cluster = Cluster(Net.line(3), [0, 2])
        self.gives((1, 2, 1, 0), split_link, cluster, [[0, 1], [0, 1], [1, 0]])
        self.gives((0, 1, 1, 0), split_link, cluster, [[0, 1], [1, 0], [1, 0]])
        self.gives(None, split_link, cluster, [[0, 1], [0, 1], [0, 1]])
        # The lower replica comes first, on whatever side it is.
        cluster = Cluster(Net.both_ways(3, [(2, 0), (2, 1)]), [0, 1])
        self.gives((0, 2, 1, 0), split_link, cluster, [[0, 1], [1, 0], [1, 0]])
        self.gives((1, 2, 0, 1), split_link, cluster, [[0, 1], [1, 0], [0, 1]])

    def test_no_entries_one_entry_and_one_replica(self):
        self.gives(None, split_link, Cluster(Net.line(2), []), [[], []])
        self.gives(None, split_link, Cluster(Net.line(2), [1]), [[0], [0]])
        self.gives(None, split_link, Cluster(Net.line(1), [0, 0]), [[1, 0]])

    def test_errors_in_their_order(self):
        for net in NO_TREES:
            cluster = Cluster(net, [0, 0])
            full = [[0, 1] for _ in range(net.count)]
            for logs in (full, [[1, 0]] + full[1:], [[0]] + full[1:], [[7]] + full[1:], []):
                self.fails("NotTree()", split_link, cluster, logs)
        cluster = Cluster(Net.line(3), [0, 2])
        self.fails("InvalidLogs(replica=2)", split_link, cluster, [[0], [0], [2]])
        self.fails("InvalidLogs(replica=None)", split_link, cluster, [[0], [0]])
        self.fails("NotFull(replica=0)", split_link, cluster, [[], [], []])
        self.fails("NotFull(replica=1)", split_link, cluster, [[1, 0], [0], [0]])
        self.fails(unreachable(Barrier(0, [0])), split_link, cluster, [[1, 0], [0, 1], [0, 1]])
        # Errors come first, also if all logs end with the same entry.
        self.fails("NotFull(replica=2)", split_link, cluster, [[0, 1], [0, 1], [1]])
        cluster = Cluster(Net.line(2), [0, 0, 0])
        self.fails(unreachable(Barrier(0, [0])), split_link, cluster, [[1, 0, 2], [0, 1, 2]])

    def test_all_full_logs_that_a_run_leads_to(self):
        for cluster in tree_worlds([(1, 2), (2, 3), (3, 2)]):
            for logs in full_logs(cluster):
                lasts = [log[-1] for log in logs]
                pairs = [(x, y) for x, y in cluster.net.links if x < y and lasts[x] != lasts[y]]
                if not pairs:
                    self.gives(None, split_link, cluster, logs)
                    continue
                [(x, y)] = pairs
                self.gives((x, y, lasts[x], lasts[y]), split_link, cluster, logs)
                # As point 25 says, each of the two entries is at home on the other side.
                side = side_of(cluster.net, x, y)
                self.assertEqual([lasts[x] if z in side else lasts[y] for z in range(cluster.net.count)], lasts)
                self.assertNotIn(cluster.homes[lasts[x]], side)
                self.assertIn(cluster.homes[lasts[y]], side)


    def test_all_other_logs_are_refused(self):
        cluster = Cluster(Net.line(2), [0, 1, 1])
        full = [repr(logs) for logs in full_logs(cluster)]
        for logs in all_logs(cluster):
            answer = self.ask(split_link, cluster, logs)
            self.assertEqual(isinstance(answer, str), repr(logs) not in full)

    def test_the_largest_cluster(self):
        cluster = Cluster(Net.line(24), [0] * 30 + [23] * 30)
        logs = finished_logs(cluster, [[] for _ in range(24)])
        lasts = last_entries(cluster, logs)
        parted = [x for x in range(23) if lasts[x] != lasts[x + 1]]
        self.assertEqual([(x, x + 1, lasts[x], lasts[x + 1]) for x in parted], [split_link(cluster, logs)])


class TwoLastsTest(PromiseCase):
    def test_a_single_entry_is_possible(self):
        for net in (Net.line(3), RING, Net.complete(4), Net.line(1)):
            cluster = Cluster(net, [0, 0])
            for entry in (0, 1):
                self.gives(None, two_lasts_fault, cluster, [entry] * net.count)

    def test_two_entries(self):
        cluster = Cluster(RING, [0, 2])
        # Replicas that choose 0 are reached from the home of 1, and the other way round.
        self.gives(None, two_lasts_fault, cluster, [1, 1, 0, 0])
        self.gives(1, two_lasts_fault, cluster, [1, 0, 0, 0])
        self.gives(3, two_lasts_fault, cluster, [1, 1, 0, 1])
        self.gives(1, two_lasts_fault, cluster, [1, 0, 0, 1])
        # A home that chooses its own entry: nothing is reached from it.
        self.gives(0, two_lasts_fault, cluster, [0, 0, 1, 1])
        self.gives(3, two_lasts_fault, cluster, [1, 1, 1, 0])
        self.gives(1, two_lasts_fault, cluster, [0, 1, 0, 0])

    def test_two_entries_with_the_same_home_are_not_possible(self):
        cluster = Cluster(Net.complete(3), [1, 1])
        self.gives(0, two_lasts_fault, cluster, [0, 1, 0])
        self.gives(0, two_lasts_fault, cluster, [0, 1, 1])
        self.gives(2, two_lasts_fault, cluster, [0, 0, 1])
        for choices in every_choice(cluster):
            if len(set(choices)) == 2:
                self.gives(naive_two(cluster, choices), two_lasts_fault, cluster, choices)
                self.assertIsNotNone(naive_two(cluster, choices))

    def test_more_entries_are_too_many(self):
        cluster = Cluster(RING, [0, 1, 2, 3])
        self.fails("TooMany(count=3)", two_lasts_fault, cluster, [0, 1, 2, 0])
        self.fails("TooMany(count=4)", two_lasts_fault, cluster, [3, 1, 2, 0])

    def test_errors_in_their_order(self):
        for net in NOT_STRONG:
            cluster = Cluster(net, [0, 0])
            for choices in ([0] * net.count, [], [7] * net.count):
                self.fails("NotStrong()", two_lasts_fault, cluster, choices)
        cluster = Cluster(RING, [0, 1, 2])
        for choices, error in wrong_choices(4, 3):
            self.fails(error, two_lasts_fault, cluster, choices)
        self.fails("InvalidChoices(replica=3)", two_lasts_fault, cluster, [0, 1, 2, 3])
        self.fails("InvalidChoices(replica=None)", two_lasts_fault, cluster, [0, 1, 2])
        self.fails("InvalidChoices(replica=0)", two_lasts_fault, Cluster(RING, []), [0, 0, 0, 0])
        self.fails("InvalidChoices(replica=None)", two_lasts_fault, Cluster(RING, []), [])

    def test_against_a_search_through_all_full_logs(self):
        for cluster in strong_worlds([(1, 2), (2, 2), (2, 3), (3, 2), (3, 3)]):
            lasts = possible_lasts(cluster)
            for choices in every_choice(cluster):
                many = len(set(choices))
                if many > 2:
                    self.fails(f"TooMany(count={many})", two_lasts_fault, cluster, choices)
                    continue
                fault = naive_two(cluster, choices) if many == 2 else None
                self.gives(fault, two_lasts_fault, cluster, choices)
                self.assertEqual(fault is None, repr(choices) in lasts)


class TreeLastsTest(PromiseCase):
    def test_the_least_link(self):
        cluster = Cluster(Net.line(4), [0, 3, 1])
        self.gives(None, tree_lasts_fault, cluster, [1, 1, 0, 0])
        self.gives(None, tree_lasts_fault, cluster, [1, 1, 1, 0])
        self.gives(None, tree_lasts_fault, cluster, [2, 0, 0, 0])
        self.gives((0, 1), tree_lasts_fault, cluster, [0, 1, 1, 1])
        self.gives((1, 0), tree_lasts_fault, cluster, [1, 2, 2, 2])
        self.gives((1, 0), tree_lasts_fault, cluster, [1, 2, 1, 1])
        self.gives((1, 2), tree_lasts_fault, cluster, [0, 0, 1, 1])

    def test_three_entries_are_never_possible(self):
        cluster = Cluster(Net.line(4), [0, 3, 1])
        for choices in every_choice(cluster):
            if len(set(choices)) == 3:
                self.gives(naive_tree(cluster, choices), tree_lasts_fault, cluster, choices)
                self.assertIsNotNone(naive_tree(cluster, choices))

    def test_a_single_entry_and_one_replica(self):
        cluster = Cluster(Net.star(4), [0, 3])
        self.gives(None, tree_lasts_fault, cluster, [1, 1, 1, 1])
        self.gives(None, tree_lasts_fault, Cluster(Net.line(1), [0, 0]), [1])

    def test_errors_in_their_order(self):
        for net in NO_TREES:
            cluster = Cluster(net, [0, 0])
            for choices in ([0] * net.count, [], [7] * net.count):
                self.fails("NotTree()", tree_lasts_fault, cluster, choices)
        cluster = Cluster(Net.line(3), [0, 1])
        for choices, error in wrong_choices(3, 2):
            self.fails(error, tree_lasts_fault, cluster, choices)
        self.fails("InvalidChoices(replica=0)", tree_lasts_fault, Cluster(Net.line(1), []), [0])

    def test_against_a_search_through_all_full_logs(self):
        for cluster in tree_worlds([(1, 2), (2, 3), (3, 3), (4, 2)]):
            lasts = possible_lasts(cluster)
            self.assertEqual(len(lasts), count_lasts(cluster))
            for choices in every_choice(cluster):
                fault = naive_tree(cluster, choices)
                self.gives(fault, tree_lasts_fault, cluster, choices)
                self.assertEqual(fault is None, repr(choices) in lasts)


class CompleteLastsTest(PromiseCase):
    def setUp(self):
        self.cluster = Cluster(Net.complete(4), [2, 0, 3, 0, 1, 2])

    def test_one_entry(self):
        self.gives(None, complete_lasts_fault, self.cluster, [1, 1, 1, 1])
        self.gives(None, complete_lasts_fault, Cluster(Net(1, []), [0, 0]), [1])

    def test_the_least_pair_with_the_same_home(self):
        self.gives(("same home", 1, 3), complete_lasts_fault, self.cluster, [3, 3, 1, 1])
        self.gives(("same home", 0, 5), complete_lasts_fault, self.cluster, [1, 5, 3, 0])
        self.gives(("same home", 0, 5), complete_lasts_fault, self.cluster, [2, 5, 4, 0])
        # Also if another fault is at a lower replica.
        self.gives(("same home", 0, 5), complete_lasts_fault, self.cluster, [1, 5, 1, 0])

    def test_the_least_home_that_chooses_an_entry_of_its_own(self):
        self.gives(("own", 0), complete_lasts_fault, self.cluster, [1, 2, 0, 4])
        self.gives(("own", 2), complete_lasts_fault, self.cluster, [4, 2, 0, 1])
        self.gives(("own", 3), complete_lasts_fault, self.cluster, [4, 0, 1, 2])

    def test_possible_choices(self):
        self.gives(None, complete_lasts_fault, self.cluster, [4, 0, 2, 1])
        self.gives(None, complete_lasts_fault, self.cluster, [2, 2, 2, 1])
        # A home may choose what it likes if it is not its own entry; others may choose any entry.
        self.gives(None, complete_lasts_fault, self.cluster, [4, 1, 4, 1])

    def test_errors_in_their_order(self):
        for net in NOT_COMPLETE:
            cluster = Cluster(net, [0, 0])
            for choices in ([0] * net.count, [], [7] * net.count, [0] + [1] * (net.count - 1)):
                self.fails("NotComplete()", complete_lasts_fault, cluster, choices)
        for choices, error in wrong_choices(4, 6):
            self.fails(error, complete_lasts_fault, self.cluster, choices)
        self.fails("InvalidChoices(replica=0)", complete_lasts_fault, Cluster(Net.complete(2), []), [0, 0])

    def test_against_a_search_through_all_full_logs(self):
        worlds = [(3, homes) for homes in itertools.product(range(3), repeat=3)]
        worlds += [(2, homes) for homes in itertools.product(range(2), repeat=3)]
        worlds += [(1, (0, 0)), (4, (0, 3)), (3, (0, 1, 2, 1)), (4, (1, 2, 3))]
        for count, homes in worlds:
            cluster = Cluster(Net.complete(count), list(homes))
            lasts = possible_lasts(cluster)
            for choices in every_choice(cluster):
                fault = naive_complete(cluster, choices)
                self.gives(fault, complete_lasts_fault, cluster, choices)
                self.assertEqual(fault is None, repr(choices) in lasts)


class LogsWithLastsTest(PromiseCase):
    def test_the_example(self):
        cluster = Cluster(Net.complete(3), [0, 1, 2, 0])
        self.gives([[3, 0, 2, 1], [3, 1, 0, 2], [3, 2, 1, 0]], logs_with_lasts, cluster, [1, 2, 0])

    def test_the_parts_of_each_log(self):
        # Entry 4 is at home at 0, 0 at 1 and 2 at 2: their homes have them first among the named ones.
        cluster = Cluster(Net.complete(4), [1, 3, 2, 0, 0])
        expected = [[1, 3, 4, 2, 0], [1, 3, 0, 4, 2], [1, 3, 2, 0, 4], [1, 3, 0, 2, 4]]
        self.gives(expected, logs_with_lasts, cluster, [0, 2, 4, 4])
        expected = [[1, 3, 4, 0, 2], [1, 3, 0, 2, 4], [1, 3, 2, 4, 0], [1, 3, 2, 4, 0]]
        self.gives(expected, logs_with_lasts, cluster, [2, 4, 0, 0])

    def test_choices_that_name_one_entry(self):
        cluster = Cluster(RING, [0, 2, 0])
        self.gives([[0, 2, 1]] * 4, logs_with_lasts, cluster, [1, 1, 1, 1])
        self.gives([[1, 2, 0]] * 4, logs_with_lasts, cluster, [0, 0, 0, 0])
        self.gives([[0]], logs_with_lasts, Cluster(Net.line(1), [0]), [0])

    def test_choices_that_name_two_entries(self):
        cluster = Cluster(RING, [0, 2, 0])
        self.gives([[2, 0, 1], [2, 0, 1], [2, 1, 0], [2, 1, 0]], logs_with_lasts, cluster, [1, 1, 0, 0])
        # The fault is a replica, also on trees and on complete nets, and replica 0 is one.
        for net in (RING, Net.line(4), Net.complete(4)):
            cluster = Cluster(net, [0, 2])
            self.fails("ImpossibleChoices(fault=0)", logs_with_lasts, cluster, [0, 0, 1, 1])
            self.fails("ImpossibleChoices(fault=3)", logs_with_lasts, cluster, [1, 1, 1, 0])
        cluster = Cluster(Net.complete(3), [1, 1])
        self.fails("ImpossibleChoices(fault=2)", logs_with_lasts, cluster, [0, 0, 1])

    def test_choices_that_name_more_entries_on_a_tree(self):
        cluster = Cluster(Net.line(3), [0, 1, 2])
        for choices in itertools.permutations(range(3)):
            fault = naive_tree(cluster, choices)
            self.fails(f"ImpossibleChoices(fault={fault})", logs_with_lasts, cluster, list(choices))

    def test_choices_that_name_more_entries_on_a_complete_net(self):
        cluster = Cluster(Net.complete(3), [0, 1, 2, 0])
        self.fails("ImpossibleChoices(fault=('own', 0))", logs_with_lasts, cluster, [0, 2, 1])
        self.fails("ImpossibleChoices(fault=('own', 2))", logs_with_lasts, cluster, [1, 0, 2])
        self.fails("ImpossibleChoices(fault=('same home', 0, 3))", logs_with_lasts, cluster, [1, 0, 3])

    def test_choices_that_name_more_entries_on_another_net(self):
        cluster = Cluster(RING, [0, 1, 2, 3])
        self.fails("TooMany(count=3)", logs_with_lasts, cluster, [0, 1, 2, 0])
        self.fails("TooMany(count=4)", logs_with_lasts, cluster, [3, 2, 1, 0])
        cluster = Cluster(Net.complete(3).without_link(0, 2), [0, 1, 2])
        self.fails("TooMany(count=3)", logs_with_lasts, cluster, [1, 2, 0])

    def test_errors_in_their_order(self):
        for net in NOT_STRONG:
            cluster = Cluster(net, [0, 0, 0])
            for choices in ([0] * net.count, [], [7] * net.count, list(range(net.count))):
                self.fails("NotStrong()", logs_with_lasts, cluster, choices)
        for net in (RING, Net.line(4), Net.complete(4)):
            cluster = Cluster(net, [0, 1, 2])
            for choices, error in wrong_choices(4, 3):
                self.fails(error, logs_with_lasts, cluster, choices)
            self.fails("InvalidChoices(replica=3)", logs_with_lasts, cluster, [0, 1, 2, 3])
            self.fails("InvalidChoices(replica=None)", logs_with_lasts, cluster, [0, 0, 1])
            self.fails("InvalidChoices(replica=0)", logs_with_lasts, Cluster(net, []), [0, 0, 0, 0])

    def test_against_a_search_through_all_full_logs(self):
        trees = list(tree_worlds([(3, 3)]))
        complete = [Cluster(Net.complete(3), list(homes)) for homes in itertools.product(range(3), repeat=3)]
        for cluster in [*strong_worlds([(1, 2), (2, 3), (3, 2), (3, 3)]), *trees, *complete]:
            full = full_logs(cluster)
            lasts = {repr([log[-1] for log in logs]) for logs in full}
            known = {repr(logs) for logs in full}
            for choices in every_choice(cluster):
                answer = self.ask(logs_with_lasts, cluster, choices)
                if repr(choices) in lasts and not str(answer).startswith("TooMany"):
                    self.assertEqual(answer, naive_logs(cluster, choices))
                    self.assertIn(repr(answer), known)
                else:
                    self.assertIsInstance(answer, str)

    def test_the_largest_cluster(self):
        homes = [(7 * entry) % 24 for entry in range(60)]
        empty = [[] for _ in range(24)]
        # Entry k is at home at 7 k; on the complete net, each replica chooses the entry of the next one.
        cluster = Cluster(Net.complete(24), homes)
        named = [homes.index((x + 1) % 24) for x in range(24)]
        logs = logs_with_lasts(cluster, named)
        self.assertEqual([log[-1] for log in logs], named)
        self.assertTrue(reachable(cluster, empty, logs))
        for net in (Net.line(24), Net.ring(24)):
            cluster = Cluster(net, homes)
            choices = [homes.index(12)] * 12 + [homes.index(0)] * 12
            logs = logs_with_lasts(cluster, choices)
            self.assertEqual([log[-1] for log in logs], choices)
            self.assertTrue(reachable(cluster, empty, logs))


class EachLastsTest(PromiseCase):
    def test_the_example(self):
        cluster = Cluster(Net.line(3), [0, 2])
        self.gives([[0, 0, 0], [1, 1, 1], [1, 0, 0], [1, 1, 0]], each_lasts, cluster)
        self.gives(4, count_lasts, cluster)

    def test_single_entries_then_pairs_then_links_of_the_path(self):
        cluster = Cluster(Net.star(3), [2, 2, 1])
        expected = [[0, 0, 0], [1, 1, 1], [2, 2, 2],
                    [0, 0, 2], [2, 0, 2], [1, 1, 2], [2, 1, 2]]
        self.gives(expected, each_lasts, cluster)
        self.gives(7, count_lasts, cluster)

    def test_no_entries_and_one_replica(self):
        self.gives([], each_lasts, Cluster(Net.line(3), []))
        self.gives(0, count_lasts, Cluster(Net.line(3), []))
        self.gives([[0], [1], [2]], each_lasts, Cluster(Net.line(1), [0, 0, 0]))
        self.gives(3, count_lasts, Cluster(Net.line(1), [0, 0, 0]))
        self.gives([[0, 0]], each_lasts, Cluster(Net.line(2), [1]))

    def test_it_is_a_generator_that_checks_when_its_first_item_is_requested(self):
        self.assertTrue(inspect.isgeneratorfunction(each_lasts))
        for net in NO_TREES:
            for homes in ([], [0], [0, 0]):
                made = each_lasts(Cluster(net, homes))
                self.assertTrue(inspect.isgenerator(made))
                self.assertEqual(self.ask(each_lasts, Cluster(net, homes)), ["NotTree()"])
                self.fails("NotTree()", count_lasts, Cluster(net, homes))

    def test_what_was_yielded_may_change(self):
        cluster = Cluster(Net.line(3), [0, 2])
        found = []
        for choices in each_lasts(cluster):
            found.append(list(choices))
            choices.clear()
        self.assertEqual(found, naive_each(cluster))

    def test_against_a_search_through_all_full_logs(self):
        for cluster in tree_worlds([(1, 3), (2, 3), (3, 3), (4, 2)]):
            expected = naive_each(cluster)
            self.gives(expected, each_lasts, cluster)
            self.gives(len(expected), count_lasts, cluster)
            self.assertEqual(sorted(map(repr, expected)), sorted(possible_lasts(cluster)))

    def test_larger_trees(self):
        for chance in chances(40, "each lasts"):
            cluster = some_tree(chance, 8, 6)
            expected = naive_each(cluster)
            self.gives(expected, each_lasts, cluster)
            self.gives(len(expected), count_lasts, cluster)
            for choices in chance.sample(expected, 3):
                self.assertIsNone(tree_lasts_fault(cluster, choices))

    def test_the_largest_cluster(self):
        homes = [(7 * entry) % 24 for entry in range(60)]
        cluster = Cluster(Net.line(24), homes)
        expected = 60 + sum(abs(a - b) for a, b in itertools.combinations(homes, 2))
        self.assertEqual(count_lasts(cluster), expected)
        self.assertEqual(sum(1 for _ in each_lasts(cluster)), expected)
        cluster = Cluster(Net.star(24), homes)
        self.assertEqual(count_lasts(cluster), sum(1 for _ in each_lasts(cluster)))


if __name__ == "__main__":
    unittest.main()
