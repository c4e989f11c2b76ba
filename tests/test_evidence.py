"""Evidence and when it holds: point 16, and the heading pullstore/evidence.py."""

import itertools
import unittest

from helpers import (
    HUGE, NOWHERE, PromiseCase, after_action, all_logs, all_reached, chances, cut_logs, possible,
    some_cluster, some_logs, some_run,
)
from pullstore.cluster import Cluster
from pullstore.evidence import Barrier, Evidence, PrefixFault, Schedule
from pullstore.net import Net

SPOILT = [[[9], []], [[], [0, 0]], [[]], [[], [], []]]


def naive_blocker(goal, source, reader, entry):
    passed = goal[reader][:goal[reader].index(entry)]
    ahead = goal[source][:goal[source].index(entry)]
    return next((other for other in ahead if other not in passed), None)


def naive_conditions(cluster, start, goal, entry, inside):
    """The four conditions of point 16, for an entry and replicas that exist."""
    holders = [x for x, log in enumerate(start) if entry in log]
    home = cluster.homes[entry]
    carrying = [(x, y) for x, y in cluster.net.links if x in inside and y not in inside
                and entry in goal[x] and entry in goal[y] and naive_blocker(goal, x, y, entry) is None]
    return [all(x in inside for x in holders),
            bool(holders) or home in inside or entry not in goal[home],
            any(entry in log for x, log in enumerate(goal) if x not in inside),
            not carrying]


class KindsTest(PromiseCase):
    def test_kinds_and_attributes(self):
        self.gives(("Evidence", ("kind", "odd")), Evidence, "odd")
        self.gives(("PrefixFault", ("kind", "prefix"), ("replica", 4)), PrefixFault, 4)
        self.gives(("Barrier", ("kind", "barrier"), ("entry", 3), ("inside", [2, 0, 2])), Barrier, 3, [2, 0, 2])
        trace = [("write", 0), ("pull", 0, 1, 0)]
        self.gives(("Schedule", ("kind", "schedule"), ("trace", trace)), Schedule, trace)

    def test_the_three_kinds_are_evidence(self):
        for made in (PrefixFault(0), Barrier(0, []), Schedule([])):
            self.assertIsInstance(made, Evidence)

    def test_attributes_may_have_any_worth(self):
        self.assertEqual([PrefixFault(-HUGE).replica, Barrier(HUGE, []).entry], [-HUGE, HUGE])
        self.assertEqual([Evidence("").kind, Barrier(0, [HUGE]).inside], ["", [HUGE]])

    def test_lists_are_copied(self):
        inside = [0, 1]
        trace = [("write", 0)]
        barrier = Barrier(0, inside)
        schedule = Schedule(trace)
        inside.append(2)
        trace.append(("write", 1))
        self.assertEqual([barrier.inside, schedule.trace], [[0, 1], [("write", 0)]])
        barrier.inside.append(7)
        schedule.trace.clear()
        self.assertEqual([inside, trace], [[0, 1, 2], [("write", 0), ("write", 1)]])

    def test_plain_evidence_holds_whatever_its_kind(self):
        cluster = Cluster(Net.line(2), [0])
        for kind in ("", "prefix", "barrier", "schedule", "odd"):
            self.gives(True, Evidence(kind).holds, cluster, [[], []], [[0], []])
            self.gives(True, Evidence(kind).holds, cluster, [[0], []], [[], []])

    def test_invalid_logs_come_first_those_of_the_start_before_those_of_the_goal(self):
        cluster = Cluster(Net.line(2), [0, 1])
        made = [Evidence("odd"), PrefixFault(0), PrefixFault(7), Barrier(0, [0]), Barrier(7, [9, 9]),
                Schedule([]), Schedule([("write", 0)]), Schedule([("write", 9)])]
        for one in made:
            self.fails("InvalidLogs(replica=0)", one.holds, cluster, [[9], []], [[], []])
            self.fails("InvalidLogs(replica=1)", one.holds, cluster, [[], [0, 0]], [[9], []])
            self.fails("InvalidLogs(replica=None)", one.holds, cluster, [[]], [[9], []])
            self.fails("InvalidLogs(replica=0)", one.holds, cluster, [[], []], [[9], []])
            self.fails("InvalidLogs(replica=None)", one.holds, cluster, [[], []], [[], [], []])
            for logs in SPOILT:
                self.assertIn("InvalidLogs", self.ask(one.holds, cluster, logs, [[], []]))
                self.assertIn("InvalidLogs", self.ask(one.holds, cluster, [[], []], logs))


class PrefixFaultTest(PromiseCase):
    def test_it_holds_where_the_log_is_no_prefix(self):
        cluster = Cluster(Net.line(3), [0, 1, 2])
        start = [[0], [1, 2], [2, 0]]
        goal = [[0, 1], [1], [0, 2]]
        self.gives(False, PrefixFault(0).holds, cluster, start, goal)
        self.gives(True, PrefixFault(1).holds, cluster, start, goal)
        # It need not be the least replica.
        self.gives(True, PrefixFault(2).holds, cluster, start, goal)

    def test_equal_and_empty_logs_are_prefixes(self):
        cluster = Cluster(Net.line(2), [0])
        for replica in (0, 1):
            self.gives(False, PrefixFault(replica).holds, cluster, [[0], []], [[0], [0]])

    def test_the_replica_must_exist(self):
        cluster = Cluster(Net.line(3), [0])
        for wrong in [3, -3, *NOWHERE]:
            self.gives(False, PrefixFault(wrong).holds, cluster, [[0], [0], [0]], [[], [], []])

    def test_against_the_words_of_the_document(self):
        for chance in chances(150, "prefix fault"):
            cluster = some_cluster(chance, 3)
            start = some_logs(chance, cluster)
            goal = some_logs(chance, cluster)
            for x in range(cluster.net.count):
                expected = goal[x][:len(start[x])] != start[x]
                self.gives(expected, PrefixFault(x).holds, cluster, start, goal)


class BarsTest(PromiseCase):
    def setUp(self):
        self.cluster = Cluster(Net.complete(3), [0, 1, 2, 2])

    def test_the_example(self):
        cluster = Cluster(Net.line(2), [0, 0])
        self.gives([(0, 1, 0)], Barrier(1, [0]).bars, cluster, [[0, 1], [1]])

    def test_one_tuple_for_each_link_out_of_the_inside(self):
        goal = [[0, 1, 2], [2, 0], [1, 0, 2]]
        self.gives([(0, 1, 0), (0, 2, None)], Barrier(2, [0]).bars, self.cluster, goal)
        self.gives([(1, 0, None), (1, 2, None)], Barrier(2, [1]).bars, self.cluster, goal)
        self.gives([(0, 1, 0), (2, 1, 1)], Barrier(2, [0, 2]).bars, self.cluster, goal)
        self.gives([], Barrier(2, [0, 1, 2]).bars, self.cluster, goal)
        self.gives([], Barrier(2, []).bars, self.cluster, goal)

    def test_both_must_hold_the_entry(self):
        goal = [[0, 1, 2], [2, 0], [1, 0, 2]]
        self.gives([(0, 2, 0)], Barrier(1, [0]).bars, self.cluster, goal)
        self.gives([], Barrier(1, [1]).bars, self.cluster, goal)
        self.gives([], Barrier(3, [0]).bars, self.cluster, goal)

    def test_the_blocker_is_the_first_one_at_the_source(self):
        goal = [[3, 1, 0, 2], [0, 2, 1, 3], []]
        self.gives([(0, 1, 3)], Barrier(2, [0]).bars, self.cluster, goal)
        self.gives([(0, 1, 3)], Barrier(0, [0]).bars, self.cluster, goal)
        self.gives([(0, 1, None)], Barrier(3, [0]).bars, self.cluster, goal)
        self.gives([(1, 0, 0)], Barrier(3, [1]).bars, self.cluster, goal)

    def test_inside_in_any_order_with_duplicates_and_with_what_is_no_replica(self):
        goal = [[0, 1, 2], [2, 0], [1, 0, 2]]
        for inside in ([2, 0], [0, 2, 0, 2], [HUGE, 2, -1, 0], [0, 2, 3, -2], [-3, 2, 0]):
            self.gives([(0, 1, 0), (2, 1, 1)], Barrier(2, inside).bars, self.cluster, goal)
        self.gives([], Barrier(2, NOWHERE).bars, self.cluster, goal)

    def test_links_count_in_their_direction(self):
        cluster = Cluster(Net(3, [(0, 1), (2, 0)]), [0])
        goal = [[0], [0], [0]]
        self.gives([(0, 1, None)], Barrier(0, [0]).bars, cluster, goal)
        self.gives([(2, 0, None)], Barrier(0, [2]).bars, cluster, goal)
        self.gives([], Barrier(0, [1]).bars, cluster, goal)

    def test_errors_in_their_order(self):
        for wrong in [4, *NOWHERE]:
            self.fails(f"UnknownEntry(entry={wrong})", Barrier(wrong, [0]).bars, self.cluster, [[], [], []])
            self.fails(f"UnknownEntry(entry={wrong})", Barrier(wrong, []).bars, self.cluster, [[], [], []])
            self.fails("InvalidLogs(replica=1)", Barrier(wrong, [0]).bars, self.cluster, [[], [4], []])
        self.fails("InvalidLogs(replica=None)", Barrier(0, [0]).bars, self.cluster, [])

    def test_against_the_words_of_the_document(self):
        for chance in chances(150, "bars"):
            cluster = some_cluster(chance, 4)
            goal = some_logs(chance, cluster)
            for entry in range(cluster.size):
                inside = [chance.randint(-1, cluster.net.count) for _ in range(3)]
                expected = [(x, y, naive_blocker(goal, x, y, entry)) for x, y in cluster.net.links
                            if x in inside and y not in inside and entry in goal[x] and entry in goal[y]]
                self.gives(expected, Barrier(entry, inside).bars, cluster, goal)


class BarrierTest(PromiseCase):
    def setUp(self):
        self.cluster = Cluster(Net.line(2), [0, 0])
        self.empty = [[], []]
        self.goal = [[0, 1], [1]]

    def test_it_holds(self):
        self.gives(True, Barrier(1, [0]).holds, self.cluster, self.empty, self.goal)
        self.gives(True, Barrier(1, [0]).holds, self.cluster, [[0, 1], []], self.goal)

    def test_the_entry_must_exist(self):
        for wrong in [2, *NOWHERE]:
            self.gives(False, Barrier(wrong, [0]).holds, self.cluster, self.empty, self.goal)

    def test_inside_ascends_without_duplicates_and_has_replicas_only(self):
        cluster = Cluster(Net.line(4), [0, 0])
        goal = [[0, 1], [0, 1], [1], [1]]
        start = [[], [], [], []]
        self.gives(True, Barrier(1, [0, 1]).holds, cluster, start, goal)
        for inside in ([1, 0], [0, 0, 1], [0, 1, 1], [0, 1, 0]):
            self.gives(False, Barrier(1, inside).holds, cluster, start, goal)
        for wrong in [4, *NOWHERE]:
            for inside in ([0, 1, wrong], [wrong, 0, 1], [wrong]):
                self.gives(False, Barrier(1, inside).holds, cluster, start, goal)

    def test_inside_may_be_empty(self):
        self.gives(True, Barrier(0, []).holds, self.cluster, self.empty, [[1], [0]])
        self.gives(False, Barrier(0, []).holds, self.cluster, self.empty, [[0], [0]])
        self.gives(False, Barrier(0, []).holds, self.cluster, [[], [0]], [[1], [0]])
        self.gives(False, Barrier(0, []).holds, self.cluster, self.empty, self.empty)

    def test_condition_1_alone_fails(self):
        # Entry 1 is at replica 1 in the start, outside; all else is as it must be.
        start = [[], [1]]
        self.assertEqual(naive_conditions(self.cluster, start, self.goal, 1, [0]), [False, True, True, True])
        self.gives(False, Barrier(1, [0]).holds, self.cluster, start, self.goal)

    def test_condition_1_is_about_every_holder(self):
        start = [[0, 1], [1]]
        self.assertEqual(naive_conditions(self.cluster, start, self.goal, 1, [0]), [False, True, True, True])
        self.gives(False, Barrier(1, [0]).holds, self.cluster, start, self.goal)

    def test_condition_2_alone_fails(self):
        goal = [[0], [0]]
        self.assertEqual(naive_conditions(self.cluster, self.empty, goal, 0, []), [True, False, True, True])
        self.gives(False, Barrier(0, []).holds, self.cluster, self.empty, goal)

    def test_condition_2_asks_nothing_if_some_replica_holds_the_entry(self):
        cluster = Cluster(Net(3, [(1, 2)]), [0])
        self.gives(True, Barrier(0, [1]).holds, cluster, [[], [0], []], [[0], [0], []])
        self.gives(False, Barrier(0, [1]).holds, cluster, [[], [], []], [[0], [0], []])

    def test_condition_2_asks_nothing_if_the_home_does_not_hold_the_entry_in_the_goal(self):
        cluster = Cluster(Net(3, [(0, 1)]), [0])
        self.gives(True, Barrier(0, [1]).holds, cluster, [[], [], []], [[], [0], [0]])
        self.gives(True, Barrier(0, [0]).holds, cluster, [[], [], []], [[], [0], [0]])

    def test_condition_3_alone_fails(self):
        goal = [[0, 1], []]
        self.assertEqual(naive_conditions(self.cluster, self.empty, goal, 1, [0]), [True, True, False, True])
        self.gives(False, Barrier(1, [0]).holds, self.cluster, self.empty, goal)
        self.gives(False, Barrier(1, [0, 1]).holds, self.cluster, self.empty, self.goal)

    def test_condition_4_alone_fails(self):
        goal = [[0, 1], [0, 1]]
        self.assertEqual(naive_conditions(self.cluster, self.empty, goal, 1, [0]), [True, True, True, False])
        self.gives(False, Barrier(1, [0]).holds, self.cluster, self.empty, goal)

    def test_it_may_hold_although_the_start_is_no_prefix_of_the_goal(self):
        self.gives(True, Barrier(1, [0]).holds, self.cluster, [[1], [0]], self.goal)
        self.gives(True, Barrier(1, [0]).holds, self.cluster, [[], [0]], self.goal)
        # A holder in the start that lacks the entry in the goal counts all the same.
        self.gives(True, Barrier(0, [0]).holds, self.cluster, [[0], []], [[], [0]])
        self.gives(False, Barrier(0, []).holds, self.cluster, [[0], []], [[], [0]])

    def test_another_barrier_than_the_one_of_an_audit_may_hold(self):
        cluster = Cluster(Net(4, [(0, 1), (1, 2), (2, 3)]), [0, 0])
        goal = [[0, 1], [0, 1], [1], [1]]
        start = [[], [], [], []]
        self.gives(True, Barrier(1, [0, 1]).holds, cluster, start, goal)
        self.gives(False, Barrier(1, [0, 1, 2]).holds, cluster, start, goal)
        self.gives(False, Barrier(1, [0]).holds, cluster, start, goal)
        self.gives(True, Barrier(1, [0, 1, 3]).holds, cluster, start, goal)

    def test_against_the_words_of_the_document(self):
        for chance in chances(150, "barrier"):
            cluster = some_cluster(chance, 3)
            everyone = range(cluster.net.count)
            goal = some_logs(chance, cluster)
            start = cut_logs(chance, goal) if chance.random() < 0.5 else some_logs(chance, cluster)
            for entry in range(cluster.size):
                for many in range(cluster.net.count + 1):
                    for inside in itertools.combinations(everyone, many):
                        expected = all(naive_conditions(cluster, start, goal, entry, inside))
                        self.gives(expected, Barrier(entry, list(inside)).holds, cluster, start, goal)

    def test_a_goal_is_reached_exactly_if_no_fault_and_no_barrier_holds(self):
        for net in (Net.line(2), Net(2, [(0, 1)]), Net(3, [(1, 0), (1, 2)])):
            everyone = range(net.count)
            cluster = Cluster(net, [0, net.count - 1])
            faults = [PrefixFault(x) for x in everyone]
            faults += [Barrier(entry, list(inside)) for entry in (0, 1) for many in range(net.count + 1)
                       for inside in itertools.combinations(everyone, many)]
            empty = [[] for _ in everyone]
            starts = [empty, [[0]] + empty[1:], empty[1:] + [[0, 1]]]
            for start in starts:
                reached = all_reached(cluster, start)
                for goal in all_logs(cluster):
                    shut = any(fault.holds(cluster, start, goal) for fault in faults)
                    self.assertEqual(shut, repr(goal) not in reached)


class ScheduleTest(PromiseCase):
    def setUp(self):
        self.cluster = Cluster(Net.line(3), [0, 2])
        self.empty = [[], [], []]
        self.goal = [[0, 1], [0, 1], [1, 0]]
        self.trace = [("write", 0), ("write", 1), ("pull", 0, 1, 0), ("pull", 2, 1, 1),
                      ("pull", 1, 0, 1), ("pull", 1, 2, 0)]

    def test_it_holds(self):
        self.gives(True, Schedule(self.trace).holds, self.cluster, self.empty, self.goal)
        self.gives(True, Schedule(self.trace[2:]).holds, self.cluster, [[0], [], [1]], self.goal)

    def test_the_empty_trace(self):
        self.gives(True, Schedule([]).holds, self.cluster, self.goal, self.goal)
        self.gives(True, Schedule([]).holds, self.cluster, self.empty, self.empty)
        self.gives(False, Schedule([]).holds, self.cluster, self.empty, self.goal)

    def test_with_one_action_left_out(self):
        for index in range(len(self.trace)):
            trace = self.trace[:index] + self.trace[index + 1:]
            self.gives(False, Schedule(trace).holds, self.cluster, self.empty, self.goal)

    def test_with_one_action_doubled(self):
        for index in range(len(self.trace)):
            trace = self.trace[:index + 1] + self.trace[index:]
            self.gives(False, Schedule(trace).holds, self.cluster, self.empty, self.goal)
            trace = self.trace + [self.trace[index]]
            self.gives(False, Schedule(trace).holds, self.cluster, self.empty, self.goal)

    def test_with_one_action_exchanged(self):
        others = [("write", 0), ("write", 1), ("write", 2), ("write", -1)]
        others += [("pull", x, y, entry) for x in range(-1, 4) for y in range(-1, 4) for entry in (-1, 0, 1, 2)]
        for index, action in enumerate(self.trace):
            for other in others:
                if other != action:
                    trace = self.trace[:index] + [other] + self.trace[index + 1:]
                    self.gives(False, Schedule(trace).holds, self.cluster, self.empty, self.goal)

    def test_a_run_to_other_logs(self):
        self.gives(False, Schedule(self.trace).holds, self.cluster, self.empty, [[0, 1], [1, 0], [1, 0]])
        self.gives(False, Schedule(self.trace).holds, self.cluster, self.empty, [[0, 1], [0, 1], [1]])
        self.gives(False, Schedule(self.trace[:-1]).holds, self.cluster, self.empty, self.goal)

    def test_from_another_start(self):
        self.gives(False, Schedule(self.trace).holds, self.cluster, [[0], [], []], self.goal)

    def test_the_rule_is_first(self):
        cluster = Cluster(Net.line(2), [0, 0])
        trace = [("write", 0), ("write", 1), ("pull", 0, 1, 1)]
        self.gives(False, Schedule(trace).holds, cluster, [[], []], [[0, 1], [1]])

    def test_against_the_words_of_the_document(self):
        for chance in chances(120, "schedule"):
            cluster = some_cluster(chance, 3)
            start = some_logs(chance, cluster)
            trace, goal = some_run(chance, cluster, start, 10)
            self.gives(True, Schedule(trace).holds, cluster, start, goal)
            chance.shuffle(trace)
            logs = start
            for action in trace:
                if logs is not None:
                    fine = action in possible(cluster, logs)
                    logs = after_action(cluster, logs, action) if fine else None
            self.gives(logs == goal, Schedule(trace).holds, cluster, start, goal)


if __name__ == "__main__":
    unittest.main()
