"""Rounds: point 19, and the heading pullstore/rounds.py."""

import itertools
import unittest

from helpers import (
    PromiseCase, after_action, chances, cut_logs, naive_carries, naive_distances, naive_roots, possible,
    some_cluster, some_logs, some_run, unreachable,
)
from pullstore.cluster import Cluster
from pullstore.evidence import Barrier, PrefixFault
from pullstore.net import Net
from pullstore.rounds import earliest_rounds, round_schedule
from pullstore.settle import settled_logs


def naive_earliest(cluster, start, goal):
    """The numbers of point 19, from the conditions alone: they are repeated until nothing changes."""
    found = {(x, entry): 0 if entry in start[x] else None for x, log in enumerate(goal) for entry in log}
    changed = True
    while changed:
        changed = False
        for x, log in enumerate(goal):
            for index, entry in enumerate(log):
                if entry in start[x]:
                    continue
                needs = [0 if index == 0 else found[(x, log[index - 1])]]
                if x not in naive_roots(cluster, start, goal, entry):
                    known = [found[(y, entry)] for y, z in cluster.net.links
                             if z == x and naive_carries(goal, y, x, entry)]
                    needs.append(min([one for one in known if one is not None], default=None))
                number = None if None in needs else 1 + max(needs)
                if number != found[(x, entry)]:
                    found[(x, entry)] = number
                    changed = True
    return [[found[(x, entry)] for entry in log] for x, log in enumerate(goal)]


def naive_rounds(cluster, start, goal):
    """The rounds as the heading says, from the earliest rounds."""
    earliest = naive_earliest(cluster, start, goal)
    rounds = []
    for number in range(1, max([0] + [one for row in earliest for one in row]) + 1):
        actions = []
        for x, log in enumerate(goal):
            for entry, own in zip(log, earliest[x]):
                if own != number:
                    continue
                if x in naive_roots(cluster, start, goal, entry):
                    actions.append(("write", entry))
                    continue
                sources = [y for y, z in cluster.net.links if z == x and naive_carries(goal, y, x, entry)
                           and earliest[y][goal[y].index(entry)] < number]
                actions.append(("pull", min(sources), x, entry))
        rounds.append(actions)
    return rounds


def place(cluster, action):
    return cluster.homes[action[1]] if action[0] == "write" else action[2]


def first_times(cluster, start, goal):
    """For each missing pair the least number of rounds after which some sequence of rounds has it.

    The search goes through all sequences of rounds from the start, also those that leave out actions.
    """
    seen = {}
    states = [start]
    number = 0
    while states:
        number += 1
        later = {}
        for logs in states:
            fine = [action for action in possible(cluster, logs)
                    if all(log == goal[x][:len(log)]
                           for x, log in enumerate(after_action(cluster, logs, action)))]
            for many in range(1, len(fine) + 1):
                for chosen in itertools.combinations(fine, many):
                    if len(set(place(cluster, action) for action in chosen)) < many:
                        continue
                    result = logs
                    for action in chosen:
                        seen.setdefault((place(cluster, action), action[-1]), number)
                        result = after_action(cluster, result, action)
                    later[repr(result)] = result
        states = list(later.values())
    return seen


class RoundsTest(PromiseCase):
    def check(self, cluster, start, goal):
        """Both answers against the words of the document, and the rounds against the actions that are allowed."""
        earliest = naive_earliest(cluster, start, goal)
        rounds = naive_rounds(cluster, start, goal)
        self.gives(earliest, earliest_rounds, cluster, start, goal)
        self.gives(rounds, round_schedule, cluster, start, goal)
        self.assertEqual(len(rounds), max([0] + [one for row in earliest for one in row]))
        logs = start
        for actions in rounds:
            places = [place(cluster, action) for action in actions]
            self.assertEqual(places, sorted(set(places)))
            self.assertTrue(all(action in possible(cluster, logs) for action in actions))
            # They may be taken in any order.
            for action in actions[::-1]:
                self.assertIn(action, possible(cluster, logs))
                logs = after_action(cluster, logs, action)
        self.assertEqual(logs, goal)

    def test_the_example(self):
        cluster = Cluster(Net.line(3), [0, 2])
        goal = [[0, 1], [0, 1], [1, 0]]
        self.gives([[1, 4], [2, 3], [1, 3]], earliest_rounds, cluster, [[], [], []], goal)
        expected = [[("write", 0), ("write", 1)], [("pull", 0, 1, 0)],
                    [("pull", 2, 1, 1), ("pull", 1, 2, 0)], [("pull", 1, 0, 1)]]
        self.gives(expected, round_schedule, cluster, [[], [], []], goal)

    def test_a_start_equal_to_the_goal_has_no_round(self):
        cluster = Cluster(Net.line(2), [0, 0])
        for logs, numbers in [([[], []], [[], []]), ([[0, 1], [1]], [[0, 0], [0]]), ([[], [1]], [[], [0]])]:
            self.gives(numbers, earliest_rounds, cluster, logs, logs)
            self.gives([], round_schedule, cluster, logs, logs)
        self.gives([[], []], earliest_rounds, Cluster(Net.line(2), []), [[], []], [[], []])

    def test_what_the_start_has_is_0(self):
        cluster = Cluster(Net.line(3), [0, 2])
        goal = [[0, 1], [0, 1], [1, 0]]
        self.gives([[0, 2], [0, 1], [0, 1]], earliest_rounds, cluster, [[0], [0], [1]], goal)
        expected = [[("pull", 2, 1, 1), ("pull", 1, 2, 0)], [("pull", 1, 0, 1)]]
        self.gives(expected, round_schedule, cluster, [[0], [0], [1]], goal)

    def test_a_start_that_holds_entries_away_from_their_homes(self):
        cluster = Cluster(Net.line(3), [0, 0])
        self.gives([[2], [1], [0]], earliest_rounds, cluster, [[], [], [1]], [[1], [1], [1]])
        expected = [[("pull", 2, 1, 1)], [("pull", 1, 0, 1)]]
        self.gives(expected, round_schedule, cluster, [[], [], [1]], [[1], [1], [1]])

    def test_each_write_at_a_replica_takes_a_round(self):
        cluster = Cluster(Net.line(2), [0, 0, 0, 1])
        self.gives([[1, 2, 3], [1]], earliest_rounds, cluster, [[], []], [[2, 0, 1], [3]])
        expected = [[("write", 2), ("write", 3)], [("write", 0)], [("write", 1)]]
        self.gives(expected, round_schedule, cluster, [[], []], [[2, 0, 1], [3]])

    def test_the_least_source_that_has_it_in_time(self):
        # 3 reads from 1 and 2. Entry 0 comes to 2 in round 2, to 1 in round 3 behind entry 1.
        net = Net(4, [(0, 1), (0, 2), (1, 3), (2, 3)])
        cluster = Cluster(net, [0, 1, 1, 1])
        goal = [[0], [1, 2, 0], [0], [1, 2, 0]]
        self.gives([[1], [1, 2, 3], [2], [2, 3, 4]], earliest_rounds, cluster, [[]] * 4, goal)
        expected = [[("write", 0), ("write", 1)], [("write", 2), ("pull", 0, 2, 0), ("pull", 1, 3, 1)],
                    [("pull", 0, 1, 0), ("pull", 1, 3, 2)], [("pull", 1, 3, 0)]]
        self.gives(expected, round_schedule, cluster, [[]] * 4, goal)
        goal = [[0], [1, 2, 3, 0], [0], [0]]
        self.gives([[1], [1, 2, 3, 4], [2], [3]], earliest_rounds, cluster, [[]] * 4, goal)
        self.check(cluster, [[]] * 4, goal)
        self.check(cluster, [[]] * 4, [[0], [0], [0], [0]])

    def test_a_source_that_holds_it_in_time_but_does_not_carry_it(self):
        # 2 reads from 0 and 1. Entry 0 is at 0 in round 2, behind entry 1, which 2 never gets.
        cluster = Cluster(Net(4, [(0, 2), (1, 2), (3, 0), (3, 1)]), [3, 0])
        goal = [[1, 0], [0], [0], [0]]
        self.gives([[1, 2], [2], [3], [1]], earliest_rounds, cluster, [[]] * 4, goal)
        expected = [[("write", 1), ("write", 0)], [("pull", 3, 0, 0), ("pull", 3, 1, 0)], [("pull", 1, 2, 0)]]
        self.gives(expected, round_schedule, cluster, [[]] * 4, goal)

    def test_a_long_way_may_be_earlier_than_a_short_one(self):
        # Entry 0 comes from 3 to 2 by way of 0, or by way of 1 and 5; but 0 waits long for entry 1.
        net = Net(8, [(3, 0), (0, 2), (3, 1), (1, 5), (5, 2), (4, 2), (4, 6), (6, 7), (7, 0)])
        cluster = Cluster(net, [3, 4])
        goal = [[1, 0], [0], [1, 0], [0], [1], [0], [1], [1]]
        expected = [[4, 5], [2], [2, 4], [1], [1], [3], [2], [3]]
        self.gives(expected, earliest_rounds, cluster, [[]] * 8, goal)
        self.check(cluster, [[]] * 8, goal)
        self.assertIn(("pull", 5, 2, 0), round_schedule(cluster, [[]] * 8, goal)[3])

    def test_goals_that_are_not_reachable(self):
        cluster = Cluster(Net.line(3), [0, 0, 2])
        for function in (earliest_rounds, round_schedule):
            self.fails(unreachable(Barrier(1, [0])), function, cluster, [[], [], []], [[0, 1], [1], [2]])
            self.fails(unreachable(Barrier(0, [])), function, cluster, [[], [], []], [[], [0], []])
            self.fails(unreachable(PrefixFault(1)), function, cluster, [[0], [1], []], [[0, 1], [0], [2]])
            self.fails(unreachable(PrefixFault(0)), function, cluster, [[0], [], []], [[], [], []])

    def test_invalid_logs_come_first(self):
        cluster = Cluster(Net.line(2), [0, 0])
        for function in (earliest_rounds, round_schedule):
            self.fails("InvalidLogs(replica=1)", function, cluster, [[], [2]], [[2], []])
            self.fails("InvalidLogs(replica=0)", function, cluster, [[], [1]], [[0, 0], []])
            self.fails("InvalidLogs(replica=None)", function, cluster, [[]], [[], []])
            self.fails("InvalidLogs(replica=None)", function, cluster, [[0], []], [[]])

    def test_against_the_words_of_the_document(self):
        for chance in chances(250, "rounds"):
            cluster = some_cluster(chance, 5)
            start = [[] for _ in range(cluster.net.count)]
            if chance.random() < 0.3:
                start = some_logs(chance, cluster)
            _, goal = some_run(chance, cluster, start, 18)
            if chance.random() < 0.3:
                cut = cut_logs(chance, goal)
                if all(x in [y for y, far in enumerate(naive_distances(cluster, cut, goal, entry)) if far is not None]
                       for x, log in enumerate(goal) for entry in log):
                    start = cut
            self.check(cluster, start, goal)

    def test_no_sequence_of_rounds_is_earlier(self):
        for chance in chances(60, "earlier"):
            cluster = some_cluster(chance, 3)
            start = [[] for _ in range(cluster.net.count)]
            if chance.random() < 0.3:
                start = [log[:1] for log in some_logs(chance, cluster)]
            _, goal = some_run(chance, cluster, start, 6)
            found = earliest_rounds(cluster, start, goal)
            expected = {(x, entry): number for x, log in enumerate(goal)
                        for entry, number in zip(log, found[x]) if number > 0}
            self.assertEqual(first_times(cluster, start, goal), expected)

    def test_the_largest_cluster(self):
        for net in (Net.line(24), Net.ring(24), Net.complete(24)):
            cluster = Cluster(net, [(7 * entry) % 24 for entry in range(60)])
            empty = [[] for _ in range(24)]
            goal = settled_logs(cluster, [cluster.entries_at(x) for x in range(24)])
            rounds = round_schedule(cluster, empty, goal)
            self.assertEqual(sum(map(len, rounds)), 24 * 60)
            numbers = earliest_rounds(cluster, empty, goal)
            self.assertEqual(len(rounds), max(max(row) for row in numbers))


if __name__ == "__main__":
    unittest.main()
