"""Audits, plans and fitting actions: points 14 to 17, and the heading pullstore/audit.py."""

import unittest

from helpers import (
    HUGE, NOWHERE, PromiseCase, after_action, all_logs, all_nets, all_reached, begins, chances, cut_logs, every_action,
    naive_audit, naive_run, plain, possible, some_cluster, some_logs, some_run, unreachable,
)
from pullstore.audit import audit, fits, fitting_actions, plan, reachable
from pullstore.cluster import Cluster
from pullstore.evidence import Barrier, PrefixFault, Schedule
from pullstore.net import Net
from pullstore.settle import settled_logs


class AuditCase(PromiseCase):
    def check(self, cluster, start, goal, expected):
        """The audit, and the other two functions, which tell the same."""
        self.gives(plain(expected), audit, cluster, start, goal)
        self.gives(isinstance(expected, Schedule), reachable, cluster, start, goal)
        if isinstance(expected, Schedule):
            self.gives(expected.trace, plan, cluster, start, goal)
        else:
            self.fails(unreachable(expected), plan, cluster, start, goal)
        self.gives(True, audit(cluster, start, goal).holds, cluster, start, goal)


class PrefixFaultTest(AuditCase):
    def test_the_least_replica_whose_log_is_no_prefix(self):
        cluster = Cluster(Net.line(3), [0, 1, 2])
        self.check(cluster, [[0], [1, 2], [0]], [[0, 1], [1], [2]], PrefixFault(1))
        self.check(cluster, [[0], [1], [0]], [[0, 1], [1, 0], [2, 0]], PrefixFault(2))
        self.check(cluster, [[0], [], []], [[], [], []], PrefixFault(0))
        self.check(cluster, [[1, 0], [], []], [[0, 1], [], []], PrefixFault(0))

    def test_it_comes_before_a_barrier(self):
        cluster = Cluster(Net.line(3), [0, 0, 2])
        self.check(cluster, [[], [], [2]], [[], [0, 1], []], PrefixFault(2))
        self.check(cluster, [[], [], []], [[], [0, 1], []], Barrier(0, []))


class BarrierTest(AuditCase):
    def setUp(self):
        self.cluster = Cluster(Net.line(3), [0, 0, 2])
        self.empty = [[], [], []]

    def test_the_least_entry_that_is_not_carried_to_some_holder(self):
        self.check(self.cluster, self.empty, [[0, 1], [1, 0], [2]], Barrier(1, [0]))
        self.check(self.cluster, self.empty, [[1, 0], [0, 1], [2]], Barrier(0, [0]))
        self.check(self.cluster, self.empty, [[0, 1], [1], [0, 2]], Barrier(0, [0]))
        self.check(self.cluster, self.empty, [[0, 1], [0], [1, 2]], Barrier(1, [0]))
        self.check(self.cluster, self.empty, [[0, 1], [2, 1, 0], [2]], Barrier(1, [0]))

    def test_the_inside_is_where_the_entry_is_carried_to(self):
        goal = [[0, 1], [0, 1], [1]]
        self.check(self.cluster, self.empty, goal, Barrier(1, [0, 1]))
        self.check(self.cluster, [[0, 1], [0], []], goal, Barrier(1, [0, 1]))
        cluster = Cluster(Net.ring(4), [1, 1])
        self.check(cluster, [[]] * 4, [[1], [0, 1], [0, 1], [0, 1]], Barrier(1, [1, 2, 3]))

    def test_the_inside_may_be_empty(self):
        self.check(self.cluster, self.empty, [[], [0], []], Barrier(0, []))
        self.check(self.cluster, self.empty, [[0], [0], [1]], Barrier(1, []))
        # From a start in which another replica holds it, the home is no root.
        self.check(self.cluster, [[], [0], []], [[], [0], []], Schedule([]))

    def test_entries_away_from_their_homes(self):
        # Replica 2 holds entry 1, so that it cannot be written at its home 0.
        self.check(self.cluster, [[], [], [1]], [[1], [1], [1]], Schedule([("pull", 2, 1, 1), ("pull", 1, 0, 1)]))
        self.check(self.cluster, [[], [], [1]], [[1], [], [1]], Barrier(1, [2]))
        self.check(self.cluster, [[], [], [1]], [[1], [0, 1], [1]], Barrier(0, []))

    def test_links_count_in_their_direction(self):
        cluster = Cluster(Net(2, [(0, 1)]), [0, 1])
        self.check(cluster, [[], []], [[0], [1, 0]], Schedule([("write", 0), ("write", 1), ("pull", 0, 1, 0)]))
        self.check(cluster, [[], []], [[0, 1], [1, 0]], Barrier(1, [1]))

    def test_the_example(self):
        cluster = Cluster(Net.line(2), [0, 0])
        self.check(cluster, [[], []], [[0, 1], [1]], Barrier(1, [0]))


class ScheduleTest(AuditCase):
    def test_the_example(self):
        expected = [("write", 0), ("write", 1), ("pull", 0, 1, 0), ("pull", 2, 1, 1),
                    ("pull", 1, 0, 1), ("pull", 1, 2, 0)]
        self.check(Cluster(Net.line(3), [0, 2]), [[], [], []], [[0, 1], [0, 1], [1, 0]], Schedule(expected))

    def test_a_start_equal_to_the_goal(self):
        cluster = Cluster(Net.line(2), [0, 0])
        for logs in ([[], []], [[0], []], [[0, 1], [1]], [[1], [0]], [[], [1, 0]]):
            self.check(cluster, logs, logs, Schedule([]))

    def test_entries_that_nobody_holds_stay_unwritten(self):
        cluster = Cluster(Net.line(2), [0, 1, 1, 0])
        self.check(cluster, [[], []], [[], [2]], Schedule([("write", 2)]))
        self.check(cluster, [[], []], [[], []], Schedule([]))
        self.check(cluster, [[], [2]], [[2], [2]], Schedule([("pull", 1, 0, 2)]))

    def test_the_order_of_the_plan(self):
        # First by the entries ahead, then by the distance, then by the replica.
        cluster = Cluster(Net.line(3), [1, 2, 0])
        goal = [[2, 0], [0, 2], [1, 0]]
        expected = [("write", 2), ("write", 0), ("write", 1), ("pull", 1, 0, 0), ("pull", 0, 1, 2), ("pull", 1, 2, 0)]
        self.check(cluster, [[], [], []], goal, Schedule(expected))
        # A write with entries ahead of it comes after pulls with fewer.
        cluster = Cluster(Net.line(2), [0, 1, 1])
        expected = [("write", 0), ("pull", 0, 1, 0), ("write", 2), ("write", 1)]
        self.check(cluster, [[], []], [[0], [0, 2, 1]], Schedule(expected))
        # At the same number of entries ahead the write comes before the pull to a lower replica.
        cluster = Cluster(Net.line(2), [0, 1])
        goal = [[0, 1], [0, 1]]
        expected = [("write", 0), ("pull", 0, 1, 0), ("write", 1), ("pull", 1, 0, 1)]
        self.check(cluster, [[], []], goal, Schedule(expected))

    def test_the_least_source_that_carries_and_is_one_link_nearer(self):
        # Entry 1 has distance 1 at 1 and 2, and 3 reads from both; at 1 entry 0 is ahead of it.
        net = Net(4, [(0, 1), (0, 2), (1, 3), (2, 3)])
        cluster = Cluster(net, [1, 0])
        goal = [[1], [0, 1], [1], [1]]
        expected = [("write", 1), ("write", 0), ("pull", 0, 2, 1), ("pull", 2, 3, 1), ("pull", 0, 1, 1)]
        self.check(cluster, [[]] * 4, goal, Schedule(expected))
        expected = [("write", 1), ("pull", 0, 1, 1), ("pull", 0, 2, 1), ("pull", 1, 3, 1)]
        self.check(cluster, [[]] * 4, [[1], [1], [1], [1]], Schedule(expected))

    def test_a_source_with_the_same_distance_is_passed_over(self):
        # 3 reads from 1 and from 2, but 1 is as far from the root 2 as 3 itself.
        cluster = Cluster(Net(4, [(1, 3), (2, 1), (2, 3)]), [2])
        expected = [("write", 0), ("pull", 2, 1, 0), ("pull", 2, 3, 0)]
        self.check(cluster, [[], [], [], []], [[], [0], [0], [0]], Schedule(expected))

    def test_carry_distances_are_taken_from_the_start(self):
        cluster = Cluster(Net.line(4), [0, 0])
        goal = [[0], [0], [0], [0]]
        expected = [("pull", 1, 0, 0), ("pull", 1, 2, 0), ("pull", 2, 3, 0)]
        self.check(cluster, [[], [0], [], []], goal, Schedule(expected))
        expected = [("pull", 1, 0, 0), ("pull", 1, 2, 0)]
        self.check(cluster, [[], [0], [], [0]], goal, Schedule(expected))

    def test_no_entries_and_one_replica(self):
        self.check(Cluster(Net.line(3), []), [[], [], []], [[], [], []], Schedule([]))
        cluster = Cluster(Net.line(1), [0, 0, 0])
        self.check(cluster, [[]], [[2, 0, 1]], Schedule([("write", 2), ("write", 0), ("write", 1)]))
        self.check(cluster, [[2]], [[2, 0]], Schedule([("write", 0)]))
        self.check(cluster, [[2]], [[0, 2]], PrefixFault(0))


class AgainstTheDocumentTest(AuditCase):
    def test_random_states(self):
        seen = set()
        for chance in chances(400, "audit"):
            cluster = some_cluster(chance, 4)
            start = [[] for _ in range(cluster.net.count)]
            if chance.random() < 0.5:
                start = some_logs(chance, cluster)
            goal = some_logs(chance, cluster)
            if chance.random() < 0.6:
                _, goal = some_run(chance, cluster, start, 12)
            if chance.random() < 0.5:
                start = cut_logs(chance, goal)
            expected = naive_audit(cluster, start, goal)
            seen.add(expected.kind)
            self.check(cluster, start, goal, expected)
            if expected.kind == "schedule":
                self.assertEqual(naive_run(cluster, start, plan(cluster, start, goal)), goal)
                self.assertEqual(len(expected.trace), sum(map(len, goal)) - sum(map(len, start)))
        self.assertEqual(seen, {"prefix", "barrier", "schedule"})

    def test_a_goal_is_reachable_exactly_if_a_run_leads_to_it(self):
        worlds = [(net, [0, 0]) for net in all_nets(2)] + [(net, [0, 1]) for net in all_nets(2)]
        worlds += [(Net.line(3), [0, 2]), (Net.ring(3), [1, 1]), (Net(3, [(0, 1), (2, 1)]), [0, 2])]
        for net, homes in worlds:
            cluster = Cluster(net, homes)
            empty = [[] for _ in range(net.count)]
            for start in (empty, [[0]] + empty[1:], empty[1:] + [[1]], empty[1:] + [[1, 0]], [[0]] * net.count):
                reached = all_reached(cluster, start)
                for goal in all_logs(cluster):
                    found = audit(cluster, start, goal)
                    self.assertEqual(found.kind == "schedule", repr(goal) in reached)
                    self.assertEqual(reachable(cluster, start, goal), repr(goal) in reached)
                    self.assertTrue(found.holds(cluster, start, goal))

    def test_three_entries_on_two_replicas(self):
        for homes in ([0, 0, 0], [0, 0, 1], [0, 1, 1]):
            for net in (Net.line(2), Net(2, [(0, 1)])):
                cluster = Cluster(net, homes)
                for start in ([[], []], [[], [0]], [[2], []]):
                    reached = all_reached(cluster, start)
                    for goal in all_logs(cluster):
                        self.assertEqual(reachable(cluster, start, goal), repr(goal) in reached)

    def test_the_largest_cluster(self):
        for net in (Net.line(24), Net.ring(24), Net.complete(24)):
            cluster = Cluster(net, [(7 * entry) % 24 for entry in range(60)])
            empty = [[] for _ in range(24)]
            goal = settled_logs(cluster, [cluster.entries_at(x) for x in range(24)])
            found = audit(cluster, empty, goal)
            self.assertEqual([found.kind, len(found.trace)], ["schedule", 24 * 60])
            self.assertTrue(found.holds(cluster, empty, goal))
            self.assertEqual(found.trace, plan(cluster, empty, goal))
            # Entry 59 begins the log of a replica that is not its home.
            goal[0] = goal[0][::-1]
            found = audit(cluster, empty, goal)
            self.assertEqual(found.kind, "barrier")
            self.assertTrue(found.holds(cluster, empty, goal))


class InvalidLogsTest(PromiseCase):
    def test_the_start_is_checked_before_the_goal(self):
        cluster = Cluster(Net.line(2), [0, 1])
        for function in (audit, reachable, plan, fitting_actions):
            self.fails("InvalidLogs(replica=1)", function, cluster, [[], [2]], [[2], []])
            self.fails("InvalidLogs(replica=0)", function, cluster, [[0], []], [[1, 1], []])
            self.fails("InvalidLogs(replica=None)", function, cluster, [[]], [[2], []])
            self.fails("InvalidLogs(replica=None)", function, cluster, [[0], [0]], [[], [], []])
            self.fails("InvalidLogs(replica=1)", function, cluster, [[0], [HUGE]], [[], []])
        self.fails("InvalidLogs(replica=1)", fits, cluster, [[], [2]], [[2], []], ("write", 7))
        self.fails("InvalidLogs(replica=0)", fits, cluster, [[], []], [[2], []], ("write", 7))
        self.fails("InvalidLogs(replica=None)", fits, cluster, [], [[2], []], ("write", 0))
        self.fails("InvalidLogs(replica=None)", fits, cluster, [[], []], [], ("write", 0))

    def test_invalid_logs_come_before_a_fault(self):
        cluster = Cluster(Net.line(2), [0, 1])
        for function in (audit, reachable, plan):
            self.fails("InvalidLogs(replica=1)", function, cluster, [[0], []], [[], [0, 0]])


class FitsTest(PromiseCase):
    def setUp(self):
        self.cluster = Cluster(Net.line(3), [0, 2, 2])
        self.goal = [[0, 1], [0, 1], [1, 0]]

    def check(self, now, fitting):
        """Which of all actions fit, each asked alone and all together."""
        self.gives(fitting, fitting_actions, self.cluster, now, self.goal)
        for action in every_action(self.cluster):
            self.gives(action in fitting, fits, self.cluster, now, self.goal, action)

    def test_writes_and_pulls_that_leave_a_prefix(self):
        self.check([[], [], []], [("write", 0), ("write", 1)])
        self.check([[0], [], [1]], [("pull", 0, 1, 0)])
        self.check([[0], [0], [1]], [("pull", 1, 2, 0), ("pull", 2, 1, 1)])
        self.check([[0], [0, 1], [1]], [("pull", 1, 0, 1), ("pull", 1, 2, 0)])

    def test_nothing_fits_at_the_goal(self):
        self.check(self.goal, [])

    def test_an_allowed_action_need_not_fit(self):
        now = [[0], [], [1]]
        self.assertIn(("pull", 2, 1, 1), possible(self.cluster, now))
        self.gives(False, fits, self.cluster, now, self.goal, ("pull", 2, 1, 1))
        self.gives(False, fits, self.cluster, now, self.goal, ("write", 2))

    def test_the_right_entry_need_not_be_allowed(self):
        # Entry 1 comes next at replica 0, but its neighbour does not have it.
        self.gives(False, fits, self.cluster, [[0], [0], [1]], self.goal, ("pull", 1, 0, 1))
        # It is the next one at replica 1 and on the log of 2, but not the first one there that 1 lacks.
        self.goal = [[0], [0, 1], [2, 1]]
        self.gives(False, fits, self.cluster, [[0], [0], [2, 1]], self.goal, ("pull", 2, 1, 1))
        # It is written already.
        self.goal = [[0, 1], [0], [1, 0]]
        self.gives(False, fits, self.cluster, [[0], [0], [1]], [[0], [0], [1, 2]], ("write", 1))

    def test_logs_that_are_no_prefix_of_the_goal(self):
        self.check([[1], [], []], [])
        self.check([[], [], [0]], [])
        self.check([[], [0, 2], []], [])
        self.check([[0, 1, 2], [0], [1]], [])

    def test_a_goal_that_is_not_reachable(self):
        self.goal = [[0], [1, 0], [1, 2, 0]]
        self.check([[], [], []], [("write", 0), ("write", 1)])
        self.goal = [[0], [2, 0], [1, 2, 0]]
        self.check([[0], [], [1]], [("write", 2)])
        self.check([[0], [], [1, 2]], [])

    def test_replicas_and_entries_that_do_not_exist(self):
        now = [[0], [0], [1]]
        for wrong in [3, -3, *NOWHERE]:
            for action in (("write", wrong), ("pull", wrong, 1, 1), ("pull", 2, wrong, 1), ("pull", 2, 1, wrong)):
                self.gives(False, fits, self.cluster, now, self.goal, action)

    def test_against_the_words_of_the_document(self):
        for chance in chances(60, "fits"):
            self.cluster = some_cluster(chance, 3)
            empty = [[] for _ in range(self.cluster.net.count)]
            _, self.goal = some_run(chance, self.cluster, empty, 10)
            if chance.random() < 0.3:
                self.goal = some_logs(chance, self.cluster)
            now = cut_logs(chance, self.goal) if chance.random() < 0.8 else some_logs(chance, self.cluster)
            self.check(now, [action for action in possible(self.cluster, now)
                             if begins(after_action(self.cluster, now, action), self.goal)])

    def test_whoever_takes_actions_that_fit_cannot_get_stuck(self):
        for chance in chances(150, "never stuck"):
            cluster = some_cluster(chance, 4)
            start = [[] for _ in range(cluster.net.count)]
            if chance.random() < 0.4:
                start = some_logs(chance, cluster)
            _, goal = some_run(chance, cluster, start, 15)
            now = start
            while now != goal:
                fitting = fitting_actions(cluster, now, goal)
                self.assertTrue(fitting, (now, goal))
                action = chance.choice(fitting)
                self.assertTrue(fits(cluster, now, goal, action))
                now = after_action(cluster, now, action)
                self.assertTrue(reachable(cluster, now, goal))
            self.assertEqual(fitting_actions(cluster, now, goal), [])


if __name__ == "__main__":
    unittest.main()
