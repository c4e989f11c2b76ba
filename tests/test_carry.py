"""What carries an entry: points 12 and 13, and the heading pullstore/carry.py."""

import unittest

from helpers import (
    NOWHERE, PromiseCase, all_logs, all_reached, chances, cut_logs, naive_carries, naive_distances, naive_roots,
    some_cluster, some_logs, some_run,
)
from pullstore.carry import carried_to, carries, carry_distances, roots_of
from pullstore.cluster import Cluster
from pullstore.net import Net


class CarriesTest(PromiseCase):
    def setUp(self):
        self.cluster = Cluster(Net.line(3), [0, 0, 2, 2])

    def test_everything_ahead_at_the_source_is_ahead_at_the_reader(self):
        goal = [[0, 1], [0, 2, 1], [2, 1]]
        self.gives(True, carries, self.cluster, goal, 0, 1, 0)
        self.gives(True, carries, self.cluster, goal, 0, 1, 1)
        self.gives(False, carries, self.cluster, goal, 1, 0, 1)
        self.gives(True, carries, self.cluster, goal, 2, 1, 1)
        self.gives(True, carries, self.cluster, goal, 2, 1, 2)
        self.gives(False, carries, self.cluster, goal, 1, 2, 1)
        self.gives(False, carries, self.cluster, goal, 1, 2, 2)

    def test_the_order_of_what_is_ahead_has_no_effect(self):
        goal = [[0, 1, 2], [1, 0, 2], []]
        self.gives(True, carries, self.cluster, goal, 0, 1, 2)
        self.gives(True, carries, self.cluster, goal, 1, 0, 2)
        self.gives(True, carries, self.cluster, goal, 0, 1, 0)
        self.gives(False, carries, self.cluster, goal, 0, 1, 1)

    def test_both_must_hold_the_entry(self):
        goal = [[0], [], [0]]
        self.gives(False, carries, self.cluster, goal, 0, 1, 0)
        self.gives(False, carries, self.cluster, goal, 1, 2, 0)
        self.gives(False, carries, self.cluster, goal, 0, 1, 3)

    def test_what_is_ahead_at_the_source_but_behind_at_the_reader(self):
        self.gives(False, carries, self.cluster, [[0, 1], [1, 0], []], 0, 1, 1)

    def test_errors_in_their_order(self):
        goal = [[0], [0], [0]]
        for wrong in [4, *NOWHERE]:
            self.fails("InvalidLogs(replica=1)", carries, self.cluster, [[], [4], []], wrong, 1, wrong)
            self.fails(f"NotLinked(source={wrong}, reader=1)", carries, self.cluster, goal, wrong, 1, wrong)
            self.fails(f"NotLinked(source=1, reader={wrong})", carries, self.cluster, goal, 1, wrong, 0)
            self.fails(f"UnknownEntry(entry={wrong})", carries, self.cluster, goal, 0, 1, wrong)
        for source, reader in [(0, 2), (2, 0), (1, 1)]:
            error = f"NotLinked(source={source}, reader={reader})"
            self.fails(error, carries, self.cluster, goal, source, reader, 0)
        self.fails("UnknownEntry(entry=4)", carries, self.cluster, [[], [], []], 0, 1, 4)
        self.fails("InvalidLogs(replica=None)", carries, self.cluster, [[]], 0, 1, 0)


class CarriedTest(PromiseCase):
    def setUp(self):
        self.cluster = Cluster(Net.line(3), [0, 0, 2, 2])
        self.empty = [[], [], []]

    def check(self, start, goal, entry, roots, distances):
        carried = [x for x, distance in enumerate(distances) if distance is not None]
        self.gives(roots, roots_of, self.cluster, start, goal, entry)
        self.gives(distances, carry_distances, self.cluster, start, goal, entry)
        self.gives(carried, carried_to, self.cluster, start, goal, entry)

    def test_from_a_start_in_which_nobody_holds_the_entry(self):
        goal = [[0, 1], [0, 1], [1, 0]]
        self.check(self.empty, goal, 0, [0], [0, 1, 2])
        self.check(self.empty, goal, 1, [0], [0, 1, None])
        self.check([[0], [0], []], goal, 1, [0], [0, 1, None])

    def test_from_a_start_that_holds_the_entry(self):
        goal = [[0, 1], [0, 1], [1, 0]]
        self.check([[], [], [1]], goal, 1, [2], [2, 1, 0])
        self.check([[0, 1], [], [1]], goal, 1, [0, 2], [0, 1, 0])
        self.check([[], [0], []], goal, 0, [1], [1, 0, 1])
        # The home is no root if another replica holds the entry in the start.
        self.check([[], [0], []], [[], [0], []], 0, [1], [None, 0, None])

    def test_an_entry_whose_home_does_not_hold_it_in_the_goal(self):
        goal = [[1], [0, 1], [0]]
        self.check(self.empty, goal, 0, [], [None, None, None])
        self.check([[], [0], []], goal, 0, [1], [None, 0, 1])

    def test_an_entry_that_nobody_holds(self):
        self.check(self.empty, [[0], [0], []], 1, [], [None, None, None])
        self.check(self.empty, self.empty, 3, [], [None, None, None])

    def test_the_least_number_of_links_counts(self):
        self.cluster = Cluster(Net(5, [(0, 1), (1, 2), (2, 3), (3, 4), (0, 3), (2, 4)]), [0, 0])
        goal = [[0, 1]] * 5
        self.check([[]] * 5, goal, 1, [0], [0, 1, 2, 1, 2])
        self.check([[], [], [0, 1], [], []], goal, 1, [2], [None, None, 0, 1, 1])
        self.check([[], [], [], [], [0]], goal, 0, [4], [None, None, None, None, 0])

    def test_links_are_followed_in_their_direction(self):
        self.cluster = Cluster(Net.ring(4), [2])
        self.check([[]] * 4, [[0]] * 4, 0, [2], [2, 3, 0, 1])

    def test_errors_in_their_order(self):
        goal = [[0, 1], [0], []]
        for function in (roots_of, carry_distances, carried_to):
            for wrong in [4, *NOWHERE]:
                self.fails("InvalidLogs(replica=0)", function, self.cluster, [[9], [], []], [[], [9], []], wrong)
                self.fails("InvalidLogs(replica=1)", function, self.cluster, [[1], [], []], [[], [9], []], wrong)
                self.fails(f"UnknownEntry(entry={wrong})", function, self.cluster, [[1], [], []], goal, wrong)
                self.fails(f"UnknownEntry(entry={wrong})", function, self.cluster, self.empty, goal, wrong)
            self.fails("NotPrefix(replica=0)", function, self.cluster, [[1], [2], []], goal, 3)
            self.fails("NotPrefix(replica=1)", function, self.cluster, [[0], [2], [2]], goal, 0)
            self.fails("NotPrefix(replica=2)", function, self.cluster, [[0, 1], [0], [2]], goal, 0)
            self.fails("InvalidLogs(replica=None)", function, self.cluster, [[]], goal, 0)
            self.fails("InvalidLogs(replica=None)", function, self.cluster, goal, [[]], 0)

    def test_against_the_words_of_the_document(self):
        for chance in chances(250, "carry"):
            self.cluster = some_cluster(chance, 4)
            goal = some_logs(chance, self.cluster)
            if chance.random() < 0.5:
                _, goal = some_run(chance, self.cluster, [[] for _ in goal], 12)
            start = cut_logs(chance, goal)
            for entry in range(self.cluster.size):
                roots = naive_roots(self.cluster, start, goal, entry)
                self.check(start, goal, entry, roots, naive_distances(self.cluster, start, goal, entry))
                for x, y in self.cluster.net.links:
                    self.gives(naive_carries(goal, x, y, entry), carries, self.cluster, goal, x, y, entry)

    def test_a_goal_is_reached_by_a_run_exactly_if_all_its_entries_are_carried(self):
        for net in (Net.line(2), Net(2, [(1, 0)]), Net(3, [(0, 1), (1, 2)]), Net.ring(3)):
            cluster = Cluster(net, [0, net.count - 1])
            start = [[] for _ in range(net.count)]
            reached = all_reached(cluster, start)
            for goal in all_logs(cluster):
                missed = [(x, entry) for entry in (0, 1) for x, log in enumerate(goal)
                          if entry in log and x not in carried_to(cluster, start, goal, entry)]
                self.assertEqual(not missed, repr(goal) in reached)


if __name__ == "__main__":
    unittest.main()
