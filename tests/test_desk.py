"""Desks: point 38, and the heading pullstore/desk.py."""

import unittest

from helpers import (
    HUGE, NO_TREES, NOWHERE, PromiseCase, after_action, all_reached, begins, chances, every_action, naive_audit,
    naive_plan, plain, possible, reached_logs, some_cluster, some_run, undone_by, unreachable,
)
from pullstore.cluster import Cluster
from pullstore.desk import Desk
from pullstore.errors import NotAllowed, NotFitting, NothingToRedo, NothingToUndo
from pullstore.evidence import Barrier, PrefixFault
from pullstore.finish import finished_logs
from pullstore.guide import Guide
from pullstore.net import Net
from pullstore.readings import split_keys
from pullstore.report import report_text
from pullstore.run import replay
from pullstore.settle import settle

EMPTY = [[], [], []]
GOAL = [[0, 1], [0, 1], [1, 0]]
PLAN = [("write", 0), ("write", 1), ("pull", 0, 1, 0), ("pull", 2, 1, 1), ("pull", 1, 0, 1), ("pull", 1, 2, 0)]


class DeskCase(PromiseCase):
    def setUp(self):
        self.cluster = Cluster(Net.line(3), [0, 2])
        self.desk = Desk(self.cluster, ["a", "a"], [5, -7])

    def begin(self, net, homes):
        self.cluster = Cluster(net, homes)
        self.desk = Desk(self.cluster, ["a"] * len(homes), list(range(len(homes))))

    def check(self, logs, goal=None, left=None, taken=None, undone=()):
        """The state of the desk."""
        self.gives(logs, lambda: self.desk.logs)
        self.gives(goal, lambda: self.desk.goal)
        self.gives(left, lambda: self.desk.left)
        if taken is not None:
            self.gives(taken, self.desk.taken)
        self.assertEqual(undone_by(self.desk), list(undone))

    def do(self, *actions):
        for action in actions:
            self.assertIsNone(self.desk.do(action))

    def undo(self, *actions):
        for action in actions:
            self.assertEqual(repr(self.desk.undo()), repr(action))

    def redo(self, *actions):
        for action in actions:
            self.assertEqual(repr(self.desk.redo()), repr(action))

    def refuse(self, error, action):
        """Every way to take the action is refused with this error, and nothing changes."""
        before = plain(self.desk)
        for function in (self.desk.do, self.desk.attempt, self.desk.preview):
            self.fails(f"{error}(action={action!r})", function, action)
        self.assertEqual(plain(self.desk), before)

    def keeps(self, function, *arguments):
        """The answer of a call that leaves the desk as it is, with its list of undone actions."""
        before = plain(self.desk)
        answer = function(*arguments)
        self.assertEqual(plain(self.desk), before)
        return answer


class BeginTest(DeskCase):
    def test_empty_logs_and_no_goal(self):
        self.check(EMPTY, None, None, [], [])
        self.gives([[]], lambda: Desk(Cluster(Net(1, []), []), [], []).logs)

    def test_it_is_new_each_time(self):
        report = "key          0     1     2\na            -     -     -"
        self.gives(("Desk", EMPTY, None, None, [], [], report), Desk, self.cluster, ["a", "a"], [5, -7])

    def test_the_errors_of_the_constructor(self):
        for key_of, value_of, entry in [
            ([], [], None), (["a"], [1, 2], None), (["a", "b"], [1], None), (["a", "b", "c"], [1, 2], None),
            (["A"], [HUGE, 1], None), (["", "b"], [10000, 1, 1], None), (["", ""], [1, 2], 0), (["a", ""], [1, 2], 1),
            (["a", "abcdefghi"], [1, 2], 1), (["a", "b"], [1, 10000], 1), (["a", "B"], [-10000, 1], 0),
            (["A", "b"], [1, 10000], 0), (["a", "b"], [-HUGE, HUGE], 0), (["a", "a.b"], [1, 1], 1),
        ]:
            self.fails(f"InvalidData(entry={entry})", Desk, self.cluster, key_of, value_of)

    def test_logs_and_left_cannot_be_assigned(self):
        self.do(("write", 0))
        for name, worth in [("logs", EMPTY), ("logs", GOAL), ("left", 0), ("left", None)]:
            with self.assertRaises(AttributeError):
                setattr(self.desk, name, worth)
        self.check([[0], [], []], None, None, [("write", 0)])

    def test_what_was_passed_may_change_later(self):
        homes, keys, values = [0, 2], ["a", "a"], [5, -7]
        cluster = Cluster(Net.line(3), homes)
        self.desk = Desk(cluster, keys, values)
        goal = [list(log) for log in GOAL]
        self.desk.set_goal(goal)
        goal[0].clear()
        goal.append([7])
        homes[0] = 1
        keys[0] = "zz"
        values.clear()
        cluster.size = 0
        cluster.net = Net(1, [])
        self.check(EMPTY, GOAL, 6, [])
        self.desk.goal = other = [[0], [0], [0]]
        other[1].append(1)
        self.check(EMPTY, [[0], [0], [0]], 3, [])
        self.assertEqual(self.desk.advance(1), [("write", 0)])
        self.assertEqual(self.desk.read(0, "a"), 5)

    def test_what_was_returned_may_change_later(self):
        self.desk.set_goal(GOAL)
        self.do(("write", 0), ("write", 1))
        self.undo(("write", 1))
        before = plain(self.desk)
        for _ in range(2):
            for answer in (self.desk.logs, self.desk.goal, self.desk.preview(), self.desk.preview(("write", 1)),
                           self.desk.taken(), self.desk.advance(0), self.desk.why(GOAL).trace):
                if answer and isinstance(answer[0], list):
                    answer[0].append(1)
                answer.clear()
            self.assertEqual(plain(self.desk), before)
        steps = self.desk.advance(2)
        steps.clear()
        self.gives([("write", 0), ("write", 1), ("pull", 0, 1, 0)], self.desk.taken)


class DoTest(DeskCase):
    def test_allowed_actions(self):
        self.do(("write", 1), ("pull", 2, 1, 1))
        self.check([[], [1], [1]], None, None, [("write", 1), ("pull", 2, 1, 1)])

    def test_not_allowed(self):
        self.do(("write", 0))
        for action in (("write", 0), ("pull", 0, 2, 0), ("pull", 1, 0, 0), ("pull", 0, 1, 1), ("write", 2)):
            self.refuse("NotAllowed", action)
        for wrong in [3, -3, *NOWHERE]:
            for action in (("write", wrong), ("pull", wrong, 1, 0), ("pull", 0, wrong, 0), ("pull", 0, 1, wrong)):
                self.refuse("NotAllowed", action)
        self.check([[0], [], []], None, None, [("write", 0)])

    def test_only_the_first_missing_entry_is_pulled(self):
        self.begin(Net.line(2), [0, 0])
        self.do(("write", 1), ("write", 0))
        self.refuse("NotAllowed", ("pull", 0, 1, 0))
        self.do(("pull", 0, 1, 1), ("pull", 0, 1, 0))

    def test_not_fitting(self):
        self.desk.set_goal([[0, 1], [0, 1], [1]])
        self.do(("write", 0), ("write", 1))
        self.refuse("NotFitting", ("pull", 2, 1, 1))
        self.do(("pull", 0, 1, 0))
        self.refuse("NotFitting", ("pull", 1, 2, 0))
        self.do(("pull", 2, 1, 1), ("pull", 1, 0, 1))
        self.check([[0, 1], [0, 1], [1]], [[0, 1], [0, 1], [1]], 0)
        self.refuse("NotFitting", ("pull", 1, 2, 0))

    def test_not_allowed_comes_before_not_fitting(self):
        self.desk.set_goal([[0], [], []])
        self.refuse("NotFitting", ("write", 1))
        self.refuse("NotAllowed", ("pull", 2, 1, 1))
        self.refuse("NotAllowed", ("write", 2))
        self.do(("write", 0))
        self.refuse("NotAllowed", ("write", 0))
        self.refuse("NotFitting", ("pull", 0, 1, 0))

    def test_it_empties_the_list_of_undone_actions(self):
        self.do(("write", 0), ("write", 1))
        self.undo(("write", 1), ("write", 0))
        self.check(EMPTY, undone=[("write", 1), ("write", 0)])
        # Also if the action is the one that redo would take.
        self.do(("write", 0))
        self.check([[0], [], []], taken=[("write", 0)])
        self.fails("NothingToRedo()", self.desk.redo)

    def test_a_refused_action_leaves_it(self):
        self.do(("write", 0), ("write", 1))
        self.undo(("write", 1))
        self.refuse("NotAllowed", ("write", 0))
        self.check([[0], [], []], undone=[("write", 1)])


class GoalTest(DeskCase):
    def test_setting_a_goal_in_both_ways(self):
        self.desk.goal = GOAL
        self.check(EMPTY, GOAL, 6)
        self.assertIsNone(self.desk.set_goal([[0], [], []]))
        self.check(EMPTY, [[0], [], []], 1)
        self.do(("write", 0))
        self.check([[0], [], []], [[0], [], []], 0)
        self.desk.goal = GOAL
        self.check([[0], [], []], GOAL, 5)
        self.assertIsNone(self.desk.clear_goal())
        self.check([[0], [], []], None, None, [("write", 0)])

    def test_the_goal_must_be_reachable_from_the_current_logs(self):
        self.do(("write", 1), ("pull", 2, 1, 1))
        for logs, error in [
            ([[0], []], "InvalidLogs(replica=None)"),
            ([[0], [2], []], "InvalidLogs(replica=1)"),
            ([[0, 0], [1], [1]], "InvalidLogs(replica=0)"),
            (GOAL, unreachable(PrefixFault(1))),
            (EMPTY, unreachable(PrefixFault(1))),
            ([[0], [1], [1, 0]], unreachable(Barrier(0, [0]))),
        ]:
            for _ in range(2):
                # Without an old goal, and with one.
                before = plain(self.desk)
                self.fails(error, self.desk.set_goal, logs)
                self.fails(error, lambda: setattr(self.desk, "goal", logs))
                self.assertEqual(plain(self.desk), before)
                self.desk.set_goal([[], [1], [1]])
        self.desk.set_goal([[1, 0], [1, 0], [1, 0]])
        self.check([[], [1], [1]], [[1, 0], [1, 0], [1, 0]], 4)

    def test_a_refused_goal_leaves_the_old_one_and_the_undone_actions(self):
        self.desk.set_goal(GOAL)
        self.do(("write", 0), ("write", 1))
        self.undo(("write", 1))
        for logs, error in [([[1], [], []], unreachable(PrefixFault(0))), ([[0]], "InvalidLogs(replica=None)"),
                            ([[0], [], [0]], unreachable(Barrier(0, [0])))]:
            self.fails(error, self.desk.set_goal, logs)
            self.fails(error, lambda: setattr(self.desk, "goal", logs))
            self.check([[0], [], []], GOAL, 5, [("write", 0)], [("write", 1)])

    def test_setting_or_removing_a_goal_empties_the_undone_actions(self):
        for change in (lambda: self.desk.set_goal(GOAL), lambda: setattr(self.desk, "goal", GOAL)):
            self.setUp()
            self.do(("write", 0), ("write", 1))
            self.undo(("write", 1))
            change()
            self.check([[0], [], []], GOAL, 5, [("write", 0)], [])
            self.do(("write", 1))
            self.undo(("write", 1))
            # The same goal again empties it, too.
            change()
            self.check([[0], [], []], GOAL, 5, [("write", 0)], [])
        self.do(("write", 1))
        self.undo(("write", 1))
        self.desk.clear_goal()
        self.check([[0], [], []], None, None, [("write", 0)], [])

    def test_clearing_without_a_goal_does_nothing(self):
        self.do(("write", 0))
        self.undo(("write", 0))
        self.assertIsNone(self.keeps(self.desk.clear_goal))
        self.check(EMPTY, None, None, [], [("write", 0)])
        self.redo(("write", 0))

    def test_the_goal_may_be_the_current_logs(self):
        self.desk.set_goal(EMPTY)
        self.check(EMPTY, EMPTY, 0)
        self.refuse("NotFitting", ("write", 0))
        self.assertEqual(self.desk.advance(5), [])
        self.desk.clear_goal()
        self.do(("write", 0))


class AttemptTest(DeskCase):
    def test_all_actions_in_their_order(self):
        self.assertEqual(repr(self.desk.attempt(("write", 1), ("pull", 2, 1, 1), ("write", 0))), "3")
        self.check([[0], [1], [1]], None, None, [("write", 1), ("pull", 2, 1, 1), ("write", 0)])

    def test_without_actions_nothing_changes(self):
        self.do(("write", 0), ("write", 1))
        self.undo(("write", 1))
        self.assertEqual(repr(self.keeps(self.desk.attempt)), "0")
        self.check([[0], [], []], None, None, [("write", 0)], [("write", 1)])
        self.gives([[0], [], []], self.desk.preview)

    def test_it_empties_the_list_of_undone_actions(self):
        self.do(("write", 0), ("write", 1))
        self.undo(("write", 1))
        self.assertEqual(self.desk.attempt(("pull", 0, 1, 0)), 1)
        self.check([[0], [0], []], None, None, [("write", 0), ("pull", 0, 1, 0)], [])

    def test_refused_in_the_middle(self):
        self.do(("write", 0), ("pull", 0, 1, 0))
        self.undo(("pull", 0, 1, 0))
        for actions, wrong in [
            ([("write", 1), ("write", 0), ("pull", 2, 1, 1)], ("write", 0)),
            ([("write", 1), ("pull", 2, 1, 1), ("write", 1)], ("write", 1)),
            ([("pull", 2, 1, 1), ("write", 1)], ("pull", 2, 1, 1)),
            ([("write", 1), ("write", 7), ("write", 0)], ("write", 7)),
        ]:
            for function in (self.desk.attempt, self.desk.preview):
                self.fails(f"NotAllowed(action={wrong!r})", function, *actions)
            self.check([[0], [], []], None, None, [("write", 0)], [("pull", 0, 1, 0)])

    def test_refused_against_a_goal(self):
        self.desk.set_goal(GOAL)
        self.do(("write", 0))
        self.undo(("write", 0))
        actions = [("write", 0), ("write", 1), ("pull", 2, 1, 1), ("write", 9)]
        for function in (self.desk.attempt, self.desk.preview):
            self.fails("NotFitting(action=('pull', 2, 1, 1))", function, *actions)
            self.fails("NotAllowed(action=('write', 9))", function, *actions[:2], *actions[:1:-1])
        self.check(EMPTY, GOAL, 6, [], [("write", 0)])
        self.assertEqual(self.desk.attempt(*PLAN), 6)
        self.check(GOAL, GOAL, 0, PLAN)

    def test_preview(self):
        self.do(("write", 0), ("write", 1))
        self.undo(("write", 1))
        self.gives([[0], [0], [0]], self.desk.preview, ("pull", 0, 1, 0), ("pull", 1, 2, 0))
        self.check([[0], [], []], None, None, [("write", 0)], [("write", 1)])
        self.desk.set_goal([[0], [0], []])
        self.fails("NotFitting(action=('pull', 1, 2, 0))", self.desk.preview, ("pull", 0, 1, 0), ("pull", 1, 2, 0))
        self.gives([[0], [0], []], self.desk.preview, ("pull", 0, 1, 0))


class UndoTest(DeskCase):
    def test_nothing_to_undo_or_redo(self):
        self.fails("NothingToUndo()", self.desk.undo)
        self.fails("NothingToRedo()", self.desk.redo)
        self.do(("write", 0))
        self.fails("NothingToRedo()", self.desk.redo)
        self.undo(("write", 0))
        self.fails("NothingToUndo()", self.desk.undo)
        self.redo(("write", 0))
        self.fails("NothingToRedo()", self.desk.redo)
        self.check([[0], [], []], None, None, [("write", 0)])

    def test_backwards_and_forwards(self):
        self.desk.attempt(*PLAN[:4])
        self.undo(PLAN[3], PLAN[2], PLAN[1])
        self.check([[0], [], []], None, None, PLAN[:1], [PLAN[3], PLAN[2], PLAN[1]])
        self.redo(PLAN[1])
        self.check([[0], [], [1]], None, None, PLAN[:2], [PLAN[3], PLAN[2]])
        self.redo(PLAN[2], PLAN[3])
        self.check([[0], [0, 1], [1]], None, None, PLAN[:4], [])
        self.undo(PLAN[3])
        self.redo(PLAN[3])
        self.check([[0], [0, 1], [1]], None, None, PLAN[:4], [])

    def test_actions_before_the_goal(self):
        self.do(("write", 0), ("write", 1))
        self.desk.set_goal(GOAL)
        self.do(("pull", 0, 1, 0))
        self.undo(("pull", 0, 1, 0), ("write", 1), ("write", 0))
        self.check(EMPTY, GOAL, 6, [], [("pull", 0, 1, 0), ("write", 1), ("write", 0)])
        self.assertEqual(self.keeps(self.desk.why, GOAL).kind, "schedule")
        self.redo(("write", 0))
        self.check([[0], [], []], GOAL, 5, [("write", 0)], [("pull", 0, 1, 0), ("write", 1)])
        self.assertEqual(self.desk.advance(10), PLAN[1:])
        self.check(GOAL, GOAL, 0, PLAN, [])
        self.undo(*PLAN[::-1])
        self.check(EMPTY, GOAL, 6, [], PLAN[::-1])

    def test_undone_actions_of_an_advance_and_of_a_sync(self):
        self.do(("write", 0))
        self.assertEqual(self.desk.sync(), 2)
        self.undo(("pull", 1, 2, 0))
        self.check([[0], [0], []], None, None, [("write", 0), ("pull", 0, 1, 0)], [("pull", 1, 2, 0)])
        self.redo(("pull", 1, 2, 0))


class AdvanceTest(DeskCase):
    def test_the_first_actions_of_the_plan(self):
        self.desk.set_goal(GOAL)
        self.assertEqual(repr(self.desk.advance()), repr(PLAN[:1]))
        self.assertEqual(repr(self.desk.advance(2)), repr(PLAN[1:3]))
        self.check([[0], [0], [1]], GOAL, 3, PLAN[:3])
        # The plan is made anew: it takes the last two actions in the other order.
        self.assertEqual(self.desk.advance(count=2), [PLAN[3], PLAN[5]])
        self.assertEqual(self.desk.advance(2), [PLAN[4]])
        self.check(GOAL, GOAL, 0, PLAN[:4] + [PLAN[5], PLAN[4]])
        self.assertEqual(repr(self.desk.advance()), "[]")

    def test_more_than_the_plan_has(self):
        for count in (6, 7, HUGE):
            self.setUp()
            self.desk.set_goal(GOAL)
            self.assertEqual(self.desk.advance(count), PLAN)
            self.check(GOAL, GOAL, 0, PLAN)

    def test_counts_of_0_and_below(self):
        self.desk.set_goal(GOAL)
        self.do(("write", 0))
        self.undo(("write", 0))
        for count in (0, -1, -2, -HUGE):
            self.assertEqual(repr(self.keeps(self.desk.advance, count)), "[]")
        self.check(EMPTY, GOAL, 6, [], [("write", 0)])

    def test_the_undone_actions(self):
        self.desk.set_goal([[0], [0], []])
        self.desk.advance(9)
        self.undo(("pull", 0, 1, 0))
        # At the goal there is nothing to take, so that the list stays; else it is emptied.
        self.redo(("pull", 0, 1, 0))
        self.assertEqual(self.keeps(self.desk.advance), [])
        self.undo(("pull", 0, 1, 0))
        self.assertEqual(self.desk.advance(), [("pull", 0, 1, 0)])
        self.check([[0], [0], []], [[0], [0], []], 0, [("write", 0), ("pull", 0, 1, 0)], [])

    def test_no_goal(self):
        for count in (-1, 0, 1, HUGE):
            self.fails("NoGoal()", self.desk.advance, count)
        self.fails("NoGoal()", self.desk.advance)
        self.desk.set_goal(GOAL)
        self.desk.clear_goal()
        self.fails("NoGoal()", self.desk.advance)

    def test_one_plan_from_the_current_logs(self):
        # From these logs the plan pulls from the nearer source.
        self.begin(Net.line(4), [0, 3])
        self.do(("write", 0), ("pull", 0, 1, 0), ("write", 1))
        goal = [[0, 1], [0, 1], [0, 1], [1, 0]]
        expected = naive_plan(self.cluster, self.desk.logs, goal)
        self.desk.set_goal(goal)
        for count in range(len(expected) + 1):
            fork = self.desk.fork()
            self.assertEqual(fork.advance(count), expected[:count])
            self.assertEqual(fork.left, len(expected) - count)


class SyncTest(DeskCase):
    def test_the_pulls_that_settle_the_logs(self):
        self.do(("write", 0), ("write", 1))
        expected = settle(self.cluster, self.desk.logs)
        self.assertEqual(repr(self.desk.sync()), "4")
        self.check([[0, 1], [0, 1], [1, 0]], None, None, [("write", 0), ("write", 1)] + expected)
        self.assertEqual(repr(self.keeps(self.desk.sync)), "0")

    def test_no_pulls_leave_the_undone_actions(self):
        self.do(("write", 0))
        self.undo(("write", 0))
        self.assertEqual(self.keeps(self.desk.sync), 0)
        self.check(EMPTY, None, None, [], [("write", 0)])
        self.do(("write", 1), ("write", 0))
        self.undo(("write", 0))
        self.assertEqual(self.desk.sync(), 2)
        self.check([[1], [1], [1]], undone=[])

    def test_against_a_goal(self):
        self.do(("write", 0), ("write", 1))
        self.desk.set_goal(GOAL)
        self.assertEqual(self.desk.sync(), 4)
        self.check(GOAL, GOAL, 0)

    def test_the_first_pull_that_does_not_fit(self):
        self.do(("write", 0), ("write", 1), ("pull", 2, 1, 1))
        self.undo(("pull", 2, 1, 1))
        for goal, wrong in [
            ([[0], [1, 0], [1]], ("pull", 0, 1, 0)), ([[0], [0], [1]], ("pull", 1, 2, 0)),
            ([[0], [0, 1], [1]], ("pull", 1, 2, 0)), ([[0], [0], [1, 0]], ("pull", 2, 1, 1)),
            ([[0], [0, 1], [1, 0]], ("pull", 1, 0, 1)),
        ]:
            self.desk.set_goal(goal)
            self.do(("pull", 0, 1, 0) if goal[1][0] == 0 else ("pull", 2, 1, 1))
            self.undo(self.desk.taken()[-1])
            before = plain(self.desk)
            self.fails(f"NotFitting(action={wrong!r})", self.desk.sync)
            self.assertEqual(plain(self.desk), before)
            self.assertEqual(len(undone_by(self.desk)), 1)


class AnswersTest(DeskCase):
    def test_why(self):
        self.do(("write", 0))
        self.gives(("Schedule", ("kind", "schedule"), ("trace", PLAN[1:])), self.desk.why, GOAL)
        self.gives(plain(PrefixFault(0)), self.desk.why, EMPTY)
        self.gives(plain(Barrier(1, [])), self.desk.why, [[0], [1], []])
        self.fails("InvalidLogs(replica=1)", self.desk.why, [[0], [2], []])
        self.fails("InvalidLogs(replica=None)", self.desk.why, [])
        # The desk's own goal has no effect.
        self.desk.set_goal([[0], [], []])
        self.gives(("Schedule", ("kind", "schedule"), ("trace", PLAN[1:])), self.desk.why, GOAL)
        self.check([[0], [], []], [[0], [], []], 0)

    def test_read(self):
        self.desk.attempt(*PLAN)
        self.gives(-7, self.desk.read, 0, "a")
        self.gives(5, self.desk.read, 2, "a")
        for key in ("b", "", "aa", "A", "no such key", " ~"):
            self.gives(None, self.desk.read, 0, key)
        for replica in [3, *NOWHERE]:
            self.fails(f"UnknownReplica(replica={replica})", self.desk.read, replica, "a")
            self.fails(f"UnknownReplica(replica={replica})", self.desk.read, replica, "b")
        self.undo(*PLAN[::-1])
        self.gives(None, self.desk.read, 0, "a")

    def test_the_value_0_is_read(self):
        self.desk = Desk(self.cluster, ["a", "b"], [0, 1])
        self.do(("write", 0))
        self.gives(0, self.desk.read, 0, "a")
        self.gives(None, self.desk.read, 1, "a")

    def test_splits(self):
        self.fails("NotFull(replica=0)", self.desk.splits)
        self.desk.attempt(*PLAN[:-1])
        self.fails("NotFull(replica=2)", self.desk.splits)
        self.do(PLAN[-1])
        self.gives([("a", 1, 2, 1, 0)], self.desk.splits)
        self.desk = Desk(self.cluster, ["a", "b"], [5, -7])
        self.desk.attempt(*PLAN)
        self.gives([], self.desk.splits)
        for net in NO_TREES:
            self.fails("NotTree()", Desk(Cluster(net, []), [], []).splits)

    def test_report(self):
        self.desk = Desk(self.cluster, ["name", "a"], [5, -7])
        self.do(("write", 0), ("write", 1), ("pull", 2, 1, 1))
        text = ("key          0     1     2\n"
                "a            -    -7    -7\n"
                "name         5     -     -")
        self.gives(text, self.desk.report)
        self.gives("key          0", Desk(Cluster(Net(1, []), []), [], []).report)

    def test_answers_leave_the_undone_actions(self):
        self.desk.set_goal(GOAL)
        self.desk.attempt(*PLAN)
        self.undo(PLAN[-1])
        for function, arguments in [(self.desk.why, (GOAL,)), (self.desk.read, (0, "a")), (self.desk.report, ()),
                                    (self.desk.taken, ()), (self.desk.preview, (PLAN[-1],)), (self.desk.fork, ())]:
            self.keeps(function, *arguments)
        self.check([[0, 1], [0, 1], [1]], GOAL, 1, PLAN[:-1], PLAN[-1:])


class ForkTest(DeskCase):
    def test_the_same_state(self):
        self.desk.set_goal(GOAL)
        self.desk.attempt(*PLAN[:4])
        self.undo(PLAN[3], PLAN[2])
        self.gives(plain(self.desk), self.desk.fork)
        other = self.desk.fork()
        self.assertEqual([other.logs, other.goal, other.left], [[[0], [], [1]], GOAL, 4])
        self.assertEqual([other.taken(), undone_by(other)], [PLAN[:2], [PLAN[3], PLAN[2]]])
        self.assertEqual([other.read(0, "a"), other.read(2, "a")], [5, -7])
        self.gives(plain(Desk(self.cluster, ["b", "c"], [1, 2])), Desk(self.cluster, ["b", "c"], [1, 2]).fork)

    def test_no_effect_on_each_other(self):
        self.desk.set_goal(GOAL)
        self.desk.attempt(*PLAN[:3])
        self.undo(PLAN[2])
        before = plain(self.desk)
        other = self.desk.fork()
        third = other.fork()
        other.redo()
        other.advance(2)
        other.clear_goal()
        self.assertEqual(plain(self.desk), before)
        other.undo()
        other.undo()
        other.undo()
        other.attempt(("pull", 2, 1, 1))
        self.assertEqual(plain(self.desk), before)
        self.assertEqual(plain(third), before)
        changed = plain(other)
        self.undo(PLAN[1])
        self.desk.goal = [[0], [0], []]
        self.do(("pull", 0, 1, 0))
        self.assertEqual(plain(other), changed)
        self.assertEqual(plain(third), before)
        self.check([[0], [0], []], [[0], [0], []], 0)


class WordsTest(DeskCase):
    def test_against_the_words_of_the_document(self):
        for chance in chances(60, "desks"):
            self.play(chance, some_cluster(chance, 4))

    def play(self, chance, cluster):
        """Many calls by chance, with the state that each should leave."""
        empty = [[] for _ in range(cluster.net.count)]
        key_of = [chance.choice("ab") for _ in cluster.homes]
        value_of = [chance.randint(-9999, 9999) for _ in cluster.homes]
        self.desk = Desk(cluster, key_of, value_of)
        taken, undone, goal = [], [], None
        for _ in range(25):
            logs = replay(cluster, empty, taken)
            fitting = [one for one in possible(cluster, logs)
                       if goal is None or begins(after_action(cluster, logs, one), goal)]
            move = chance.choice(["do", "do", "attempt", "undo", "undo", "redo", "goal", "clear", "advance", "sync", "wrong"])
            if move == "do" and fitting:
                action = chance.choice(fitting)
                self.do(action)
                taken, undone = taken + [action], []
            elif move == "attempt":
                steps, _ = some_run(chance, cluster, logs, chance.randint(0, 3))
                taken, undone = self.attempt(self.desk.attempt, cluster, logs, goal, steps, taken, undone)
            elif move == "undo" and taken:
                self.undo(taken[-1])
                taken, undone = taken[:-1], undone + taken[-1:]
            elif move == "redo" and undone:
                self.redo(undone[-1])
                taken, undone = taken + undone[-1:], undone[:-1]
            elif move == "goal":
                _, goal = some_run(chance, cluster, logs, chance.randint(0, 12))
                self.desk.set_goal(goal)
                undone = []
            elif move == "clear":
                self.desk.clear_goal()
                undone = undone if goal is None else []
                goal = None
            elif move == "advance" and goal is not None:
                count = chance.randint(-1, 4)
                steps = naive_plan(cluster, logs, goal)[:max(count, 0)]
                self.assertEqual(self.desk.advance(count), steps)
                taken, undone = taken + steps, [] if steps else undone
            elif move == "sync":
                steps = settle(cluster, logs)
                taken, undone = self.attempt(lambda *_: self.desk.sync(), cluster, logs, goal, steps, taken, undone)
            elif move == "wrong":
                action = chance.choice([one for one in every_action(cluster) if one not in fitting])
                error = "NotFitting" if action in possible(cluster, logs) else "NotAllowed"
                self.refuse(error, action)
            left = None if goal is None else sum(map(len, goal)) - len(taken)
            logs = replay(cluster, empty, taken)
            self.check(logs, goal, left, taken, undone)
            self.gives(report_text(cluster, logs, key_of, value_of), self.desk.report)
            if goal is not None:
                self.assertEqual(plain(self.desk.why(goal)), plain(naive_audit(cluster, logs, goal)))

    def attempt(self, function, cluster, logs, goal, steps, taken, undone):
        """Takes steps that are allowed, or is refused by the goal."""
        for action in steps:
            logs = after_action(cluster, logs, action)
            if goal is not None and not begins(logs, goal):
                self.fails(f"NotFitting(action={action!r})", function, *steps)
                return taken, undone
        self.assertEqual(repr(function(*steps)), repr(len(steps)))
        return taken + steps, [] if steps else undone

    def test_beside_a_guide(self):
        for chance in chances(30, "desk and guide"):
            cluster = some_cluster(chance, 4)
            empty = [[] for _ in range(cluster.net.count)]
            before, start = some_run(chance, cluster, empty, 5)
            _, goal = some_run(chance, cluster, start, 12)
            desk = Desk(cluster, ["k"] * cluster.size, [0] * cluster.size)
            desk.attempt(*before)
            desk.goal = goal
            guide = Guide(cluster, start, goal)
            for _ in range(12):
                self.assertEqual([desk.logs, desk.left], [guide.logs, guide.left])
                self.assertEqual(desk.taken(), before + guide.taken())
                self.assertEqual(desk.fork().advance(), [one for one in [guide.next_action()] if one is not None])
                for action in every_action(cluster):
                    self.compare(desk.fork(), guide, action)
                if chance.random() < 0.3 and guide.taken():
                    self.assertEqual(desk.undo(), guide.undo())
                elif guide.next_action() is not None:
                    guide.take(guide.next_action())
                    desk.advance()

    def compare(self, desk, guide, action):
        """The desk takes the action exactly if the guide does."""
        try:
            desk.do(action)
        except (NotAllowed, NotFitting):
            with self.assertRaises(NotFitting):
                guide.take(action)
            return
        guide.take(action)
        self.assertEqual(desk.logs, guide.logs)
        guide.undo()

    def test_beside_replay_and_a_search_through_all_runs(self):
        for net, homes in [(Net.line(2), [0, 1]), (Net.ring(3), [1]), (Net(2, [(0, 1)]), [0, 0])]:
            cluster = Cluster(net, homes)
            empty = [[] for _ in range(net.count)]
            for logs in reached_logs(cluster, empty):
                desk = Desk(cluster, ["k"] * len(homes), [0] * len(homes))
                desk.set_goal(logs)
                steps = desk.advance(HUGE)
                self.assertEqual([desk.logs, desk.left], [logs, 0])
                self.assertEqual(replay(cluster, empty, steps), logs)
                further = all_reached(cluster, logs)
                for goal in reached_logs(cluster, empty):
                    if repr(goal) in further:
                        desk.fork().set_goal(goal)
                    self.assertEqual(desk.why(goal).kind == "schedule", repr(goal) in further)

    def test_the_splits_are_those_of_the_keys(self):
        for chance in chances(20, "splits"):
            cluster = Cluster(Net.line(3), [chance.randrange(3) for _ in range(4)])
            key_of = [chance.choice("ab") for _ in range(4)]
            desk = Desk(cluster, key_of, [1, 2, 3, 4])
            trace, _ = some_run(chance, cluster, [[], [], []], 100)
            desk.attempt(*trace)
            self.assertEqual(self.ask(desk.splits), split_keys(cluster, desk.logs, key_of))

    def test_the_largest_cluster(self):
        cluster = Cluster(Net.star(24), [(7 * entry) % 24 for entry in range(60)])
        goal = finished_logs(cluster, [[] for _ in range(24)])
        desk = Desk(cluster, ["a"] * 60, [0] * 60)
        desk.goal = goal
        self.assertEqual(len(desk.advance(1000)), 1000)
        self.assertEqual(desk.left, 440)
        desk.advance(1000)
        self.assertEqual([desk.left, desk.logs], [0, goal])
        for _ in range(1440):
            desk.undo()
        with self.assertRaises(NothingToUndo):
            desk.undo()
        for _ in range(1440):
            desk.redo()
        with self.assertRaises(NothingToRedo):
            desk.redo()
        self.assertEqual(desk.logs, goal)
        desk = Desk(cluster, ["a"] * 60, [0] * 60)
        desk.attempt(*[("write", entry) for entry in range(60)])
        self.assertEqual(desk.sync(), 1380)


if __name__ == "__main__":
    unittest.main()
