"""Guides: points 14, 15 and 17, and the heading pullstore/guide.py."""

import unittest

from helpers import (
    NOWHERE, PromiseCase, after_action, all_reached, chances, every_action, plain, possible, some_cluster, some_logs,
    some_run, unreachable,
)
from pullstore.audit import fitting_actions, plan
from pullstore.cluster import Cluster
from pullstore.errors import NotFitting, NothingToUndo
from pullstore.evidence import Barrier, PrefixFault
from pullstore.guide import Guide
from pullstore.net import Net
from pullstore.settle import settled_logs

EMPTY = [[], [], []]
GOAL = [[0, 1], [0, 1], [1, 0]]


class GuideTest(PromiseCase):
    def setUp(self):
        self.cluster = Cluster(Net.line(3), [0, 2])
        self.guide = Guide(self.cluster, EMPTY, GOAL)

    def check(self, logs, left, taken):
        """The state of the guide."""
        self.gives(logs, lambda: self.guide.logs)
        self.gives(left, lambda: self.guide.left)
        self.gives(taken, self.guide.taken)

    def take(self, *actions):
        for action in actions:
            self.assertIsNone(self.guide.take(action))

    def undo(self, expected):
        self.assertEqual(self.guide.undo(), expected)

    def refuse(self, action):
        self.fails(f"NotFitting(action={action!r})", self.guide.take, action)

    def test_it_begins_with_the_start(self):
        self.check(EMPTY, 6, [])
        self.guide = Guide(self.cluster, [[0], [], [1]], GOAL)
        self.check([[0], [], [1]], 4, [])
        self.guide = Guide(self.cluster, GOAL, GOAL)
        self.check(GOAL, 0, [])

    def test_taking_actions_that_fit(self):
        self.take(("write", 1))
        self.check([[], [], [1]], 5, [("write", 1)])
        self.take(("write", 0), ("pull", 0, 1, 0))
        self.check([[0], [0], [1]], 3, [("write", 1), ("write", 0), ("pull", 0, 1, 0)])

    def test_the_next_action_is_the_first_one_of_the_plan(self):
        expected = plan(self.cluster, EMPTY, GOAL)
        for action in expected:
            self.gives(action, self.guide.next_action)
            self.take(action)
        self.gives(None, self.guide.next_action)
        self.check(GOAL, 0, expected)

    def test_the_next_action_after_actions_of_ones_own(self):
        self.take(("write", 1))
        self.gives(("write", 0), self.guide.next_action)
        self.take(("write", 0), ("pull", 0, 1, 0), ("pull", 1, 2, 0))
        self.gives(("pull", 2, 1, 1), self.guide.next_action)
        self.undo(("pull", 1, 2, 0))
        self.gives(("pull", 2, 1, 1), self.guide.next_action)
        self.take(("pull", 2, 1, 1))
        self.gives(("pull", 1, 0, 1), self.guide.next_action)

    def test_carry_distances_are_those_of_the_current_logs(self):
        self.guide = Guide(Cluster(Net.line(4), [0]), [[], [], [0], []], [[0], [0], [0], [0]])
        self.gives(("pull", 2, 1, 0), self.guide.next_action)
        self.take(("pull", 2, 3, 0))
        self.gives(("pull", 2, 1, 0), self.guide.next_action)
        self.take(("pull", 2, 1, 0))
        self.gives(("pull", 1, 0, 0), self.guide.next_action)

    def test_an_action_that_is_not_allowed(self):
        for action in (("pull", 0, 1, 0), ("pull", 1, 0, 1), ("write", 2), ("write", -1), ("pull", 0, 2, 0)):
            self.refuse(action)
        for wrong in [3, -3, *NOWHERE]:
            for action in (("write", wrong), ("pull", wrong, 1, 0), ("pull", 0, wrong, 0), ("pull", 0, 1, wrong)):
                self.refuse(action)
        self.take(("write", 0))
        self.refuse(("write", 0))
        self.check([[0], [], []], 5, [("write", 0)])

    def test_an_action_that_is_allowed_but_does_not_fit(self):
        self.take(("write", 0), ("write", 1))
        action = ("pull", 2, 1, 1)
        self.assertIn(action, possible(self.cluster, self.guide.logs))
        self.refuse(action)
        self.check([[0], [], [1]], 4, [("write", 0), ("write", 1)])
        self.guide = Guide(self.cluster, EMPTY, [[0], [], []])
        self.refuse(("write", 1))
        self.take(("write", 0))
        self.refuse(("pull", 0, 1, 0))
        self.check([[0], [], []], 0, [("write", 0)])

    def test_at_the_goal_no_action_fits(self):
        self.guide = Guide(self.cluster, GOAL, GOAL)
        for action in every_action(self.cluster):
            self.refuse(action)
        self.gives(None, self.guide.next_action)
        self.fails("NothingToUndo()", self.guide.undo)

    def test_undo(self):
        self.fails("NothingToUndo()", self.guide.undo)
        self.take(("write", 1), ("write", 0), ("pull", 0, 1, 0))
        self.undo(("pull", 0, 1, 0))
        self.check([[0], [], [1]], 4, [("write", 1), ("write", 0)])
        self.undo(("write", 0))
        self.take(("write", 0))
        self.undo(("write", 0))
        self.undo(("write", 1))
        self.check(EMPTY, 6, [])
        self.fails("NothingToUndo()", self.guide.undo)
        self.check(EMPTY, 6, [])

    def test_undo_does_not_go_back_behind_the_start(self):
        self.guide = Guide(self.cluster, [[0], [0], [1]], GOAL)
        self.fails("NothingToUndo()", self.guide.undo)
        self.take(("pull", 1, 2, 0))
        self.undo(("pull", 1, 2, 0))
        self.fails("NothingToUndo()", self.guide.undo)
        self.check([[0], [0], [1]], 3, [])

    def test_the_last_action_may_be_undone_at_the_goal(self):
        self.take(*plan(self.cluster, EMPTY, GOAL))
        self.undo(("pull", 1, 2, 0))
        self.check([[0, 1], [0, 1], [1]], 1, plan(self.cluster, EMPTY, GOAL)[:-1])
        self.gives(("pull", 1, 2, 0), self.guide.next_action)

    def test_calls_that_are_refused_change_nothing(self):
        self.take(("write", 0))
        before = plain(self.guide)
        for _ in range(3):
            self.refuse(("write", 0))
            self.refuse(("pull", 1, 2, 0))
            self.refuse(("write", 5))
        self.assertEqual(plain(self.guide), before)
        self.undo(("write", 0))
        for _ in range(3):
            self.fails("NothingToUndo()", self.guide.undo)
            self.refuse(("write", 5))
        self.check(EMPTY, 6, [])
        self.take(("write", 0), ("pull", 0, 1, 0))
        self.check([[0], [0], []], 4, [("write", 0), ("pull", 0, 1, 0)])

    def test_logs_and_left_cannot_be_assigned(self):
        self.take(("write", 0))
        for name, worth in [("logs", EMPTY), ("logs", GOAL), ("left", 0), ("left", 5)]:
            with self.assertRaises(AttributeError):
                setattr(self.guide, name, worth)
        self.check([[0], [], []], 5, [("write", 0)])

    def test_what_was_passed_may_change_later(self):
        start = [list(log) for log in EMPTY]
        goal = [list(log) for log in GOAL]
        homes = [0, 2]
        cluster = Cluster(Net.line(3), homes)
        self.guide = Guide(cluster, start, goal)
        start[0].append(0)
        start.pop()
        goal[1].reverse()
        goal[2].clear()
        goal.append([])
        homes[0] = 1
        cluster.size = 0
        cluster.net = Net(1, [])
        self.check(EMPTY, 6, [])
        expected = plan(self.cluster, EMPTY, GOAL)
        for action in expected:
            self.gives(action, self.guide.next_action)
            self.take(action)
        self.check(GOAL, 0, expected)

    def test_what_was_returned_may_change_later(self):
        self.take(("write", 0))
        for _ in range(2):
            logs = self.guide.logs
            logs[0].append(1)
            logs.clear()
            self.guide.taken().clear()
            self.check([[0], [], []], 5, [("write", 0)])

    def test_guides_have_no_effect_on_each_other(self):
        other = Guide(self.cluster, EMPTY, GOAL)
        self.take(("write", 0))
        self.assertEqual([other.logs, other.left, other.taken()], [EMPTY, 6, []])
        other.take(("write", 1))
        self.check([[0], [], []], 5, [("write", 0)])

    def test_errors_of_the_constructor_in_their_order(self):
        for start, goal, error in [
            ([[], [2], []], [[2], [], []], "InvalidLogs(replica=1)"),
            ([[], [], []], [[], [], [0, 0]], "InvalidLogs(replica=2)"),
            ([[1], [], []], [[], [], [2]], "InvalidLogs(replica=2)"),
            ([[]], [[], [], [2]], "InvalidLogs(replica=None)"),
            ([[], [], []], [[]], "InvalidLogs(replica=None)"),
            ([[1], [], []], [[], [], []], unreachable(PrefixFault(0))),
            ([[0], [], [1]], [[0], [1, 0], []], unreachable(PrefixFault(2))),
            ([[], [], []], [[1, 0], [0], [1]], unreachable(Barrier(0, [0]))),
            ([[], [], []], [[0], [], [1, 0]], unreachable(Barrier(0, [0]))),
            ([[], [], []], [[], [1], []], unreachable(Barrier(1, []))),
        ]:
            self.fails(error, Guide, self.cluster, start, goal)

    def test_it_is_new_each_time(self):
        expected = ("Guide", [[0], [], []], 5, ("write", 1), [])
        self.gives(expected, Guide, self.cluster, [[0], [], []], GOAL)

    def test_against_the_words_of_the_document(self):
        for chance in chances(30, "guide"):
            cluster = some_cluster(chance, 4)
            start = [[] for _ in range(cluster.net.count)]
            if chance.random() < 0.4:
                start = some_logs(chance, cluster)
            _, goal = some_run(chance, cluster, start, 12)
            self.cluster = cluster
            self.guide = Guide(cluster, start, goal)
            states = [start]
            taken = []
            for _ in range(30):
                logs = states[-1]
                self.check(logs, sum(map(len, goal)) - sum(map(len, logs)), taken)
                self.gives((plan(cluster, logs, goal) + [None])[0], self.guide.next_action)
                fitting = fitting_actions(cluster, logs, goal)
                if chance.random() < 0.3 and taken:
                    self.undo(taken.pop())
                    states.pop()
                elif fitting:
                    taken.append(chance.choice(fitting))
                    self.take(taken[-1])
                    states.append(after_action(cluster, logs, taken[-1]))
                others = [action for action in every_action(cluster)
                          if action not in fitting_actions(cluster, states[-1], goal)]
                self.refuse(chance.choice(others))

    def test_a_guide_is_made_exactly_if_a_run_leads_to_the_goal(self):
        reached = all_reached(self.cluster, EMPTY)
        one = [[], [0], [1], [0, 1], [1, 0]]
        for goal in ([a, b, c] for a in one for b in one for c in one):
            made = self.ask(Guide, self.cluster, EMPTY, goal)
            self.assertEqual(made[0] == "Guide", repr(goal) in reached)

    def test_the_largest_cluster(self):
        cluster = Cluster(Net.star(24), [(7 * entry) % 24 for entry in range(60)])
        goal = settled_logs(cluster, [cluster.entries_at(x) for x in range(24)])
        guide = Guide(cluster, [[] for _ in range(24)], goal)
        for number in range(1440):
            self.assertEqual(guide.left, 1440 - number)
            guide.take(guide.next_action())
        self.assertIsNone(guide.next_action())
        self.assertEqual(guide.logs, goal)
        with self.assertRaises(NotFitting):
            guide.take(("write", 0))
        for number in range(1440):
            guide.undo()
        with self.assertRaises(NothingToUndo):
            guide.undo()


if __name__ == "__main__":
    unittest.main()
