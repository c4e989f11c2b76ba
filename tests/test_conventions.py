"""Point 2 over the whole program: each function and class of the interface keeps the conventions."""

import unittest

from helpers import CLASSES, FUNCTIONS, HUGE, PromiseCase, outcome, plain
from pullstore.audit import audit, fits, fitting_actions, plan, reachable
from pullstore.carry import carried_to, carries, carry_distances, roots_of
from pullstore.causes import longest_chain, reorder, trace_causes, trace_layers
from pullstore.cluster import Cluster
from pullstore.crossing import logs_of_table, order_table, pair_codes
from pullstore.depths import count_ring, depth_run, depths_fault, depths_of, each_depths
from pullstore.desk import Desk
from pullstore.device import frames, mend, scan
from pullstore.diskstore import DiskStore
from pullstore.evidence import Barrier, Evidence, PrefixFault, Schedule
from pullstore.finish import finish, finished_logs
from pullstore.firsts import count_firsts, first_entries, firsts_fault, logs_with_firsts
from pullstore.free import free_fault, free_plan
from pullstore.guide import Guide
from pullstore.infer import fewest_actions, least_logs
from pullstore.join import join_logs
from pullstore.lasts import (
    complete_lasts_fault, count_lasts, each_lasts, last_entries, logs_with_lasts, split_link, tree_lasts_fault,
    two_lasts_fault,
)
from pullstore.links import helpful_links, lean_net, needed_links, suspects
from pullstore.logs import (
    ahead_of, check_logs, empty_logs, holders_of, is_full, is_prefix, missing_pairs, restrict, unwritten,
)
from pullstore.net import Net
from pullstore.owners import no_home, possible_homes
from pullstore.paths import (
    is_complete, is_ring, is_strong, is_tree, is_two_way, reach_within, tree_distance, tree_path, tree_side,
)
from pullstore.readings import read_entry, split_key, split_keys
from pullstore.report import report_text
from pullstore.ring import restore_log, ring_fault, ring_logs
from pullstore.rounds import earliest_rounds, round_schedule
from pullstore.run import allowed_actions, apply_action, each_state, offers, replay
from pullstore.settle import is_settled, pulls_left, settle, settled_logs
from pullstore.survive import run_disk, surviving
from pullstore.treecheck import link_fault, pair_fault, tree_fault

LINE = Net.line(3)
RING = Net.ring(3)
ALL = Net.complete(3)
ON_LINE = Cluster(LINE, [0, 2, 2])
ON_RING = Cluster(RING, [0, 2, 2])
ON_ALL = Cluster(ALL, [0, 2, 2])
APART = Cluster(Net(3, [(0, 1)]), [0, 2, 2])
EMPTY = [[], [], []]
START = [[0], [], [1]]
GOAL = [[0, 1], [0, 1], [1, 2]]
FULL = [[0, 1, 2], [1, 0, 2], [1, 0, 2]]
SAME = [[0, 1, 2], [0, 1, 2], [0, 1, 2]]
# Full logs that no run leads to.
STUCK = [[0, 1, 2], [0, 2, 1], [0, 1, 2]]
TRACE = [("write", 1), ("write", 0), ("pull", 0, 1, 0), ("pull", 2, 1, 1)]
HISTORY = [("write", 0), ("save", 0, 3), ("pull", 0, 1, 0), ("write", 1), ("crash", 2), ("recover", 2)]
TABLE = {(0, 1): (0, 1), (0, 2): (0, 1), (1, 2): "ahead"}
KEYS = ["a", "b", "a"]
VALUES = [5, -7, 0]
BAD = [[0], [3, 3], []]

# For each function questions that it answers, and questions to which it raises an error.
QUESTIONS = [
    (reach_within, [(LINE, [0, 2], [2, 1])], [(LINE, [3], [0]), (LINE, [0], [HUGE])]),
    (is_two_way, [(LINE,), (RING,)], []),
    (is_strong, [(LINE,), (APART.net,)], []),
    (is_tree, [(LINE,), (RING,)], []),
    (is_ring, [(LINE,), (RING,)], []),
    (is_complete, [(LINE,), (ALL,)], []),
    (tree_path, [(LINE, 0, 2)], [(RING, 0, 1), (LINE, 0, HUGE)]),
    (tree_distance, [(LINE, 0, 2)], [(RING, 0, 1), (LINE, -HUGE, 0)]),
    (tree_side, [(LINE, 0, 1)], [(RING, 0, 1), (LINE, 0, 2)]),
    (check_logs, [(ON_LINE, GOAL)], [(ON_LINE, BAD), (ON_LINE, [])]),
    (empty_logs, [(ON_LINE,)], []),
    (holders_of, [(ON_LINE, GOAL, 0)], [(ON_LINE, BAD, 0), (ON_LINE, GOAL, HUGE)]),
    (ahead_of, [(ON_LINE, GOAL, 0, 1)], [(ON_LINE, BAD, 9, 9), (ON_LINE, GOAL, 0, 2), (ON_LINE, GOAL, 9, 9)]),
    (unwritten, [(ON_LINE, START)], [(ON_LINE, BAD)]),
    (is_full, [(ON_LINE, START), (ON_LINE, FULL)], [(ON_LINE, BAD)]),
    (is_prefix, [(ON_LINE, START, GOAL)], [(ON_LINE, BAD, GOAL), (ON_LINE, GOAL, BAD)]),
    (missing_pairs, [(ON_LINE, START, GOAL)], [(ON_LINE, BAD, GOAL), (ON_LINE, GOAL, START)]),
    (restrict, [(ON_LINE, GOAL, 1, 0, 1), (ON_LINE, GOAL)], [(ON_LINE, BAD, 9), (ON_LINE, GOAL, 0, -1)]),
    (offers, [(ON_LINE, START, 0, 1)], [(ON_LINE, BAD, 0, 2), (ON_LINE, START, 0, 2)]),
    (allowed_actions, [(ON_LINE, START)], [(ON_LINE, BAD)]),
    (apply_action, [(ON_LINE, START, ("write", 2))], [(ON_LINE, BAD, ("write", 9)), (ON_LINE, START, ("write", 0))]),
    (replay, [(ON_LINE, EMPTY, TRACE)], [(ON_LINE, BAD, TRACE), (ON_LINE, START, TRACE)]),
    (each_state, [(ON_LINE, EMPTY, TRACE)], [(ON_LINE, BAD, TRACE), (ON_LINE, EMPTY, TRACE + TRACE)]),
    (trace_causes, [(ON_LINE, EMPTY, TRACE)], [(ON_LINE, BAD, TRACE), (ON_LINE, START, TRACE)]),
    (trace_layers, [(ON_LINE, EMPTY, TRACE)], [(ON_LINE, BAD, TRACE), (ON_LINE, START, TRACE)]),
    (longest_chain, [(ON_LINE, EMPTY, TRACE)], [(ON_LINE, BAD, TRACE), (ON_LINE, START, TRACE)]),
    (reorder, [(ON_LINE, EMPTY, TRACE, [1, 0, 2, 3])],
     [(ON_LINE, BAD, TRACE, [9]), (ON_LINE, EMPTY, TRACE, [3, 0, 1, 2]), (ON_LINE, START, TRACE, [])]),
    (is_settled, [(ON_LINE, START)], [(ON_LINE, BAD)]),
    (settle, [(ON_LINE, START)], [(ON_LINE, BAD)]),
    (settled_logs, [(ON_LINE, START)], [(ON_LINE, BAD)]),
    (pulls_left, [(ON_LINE, START)], [(ON_LINE, BAD)]),
    (carries, [(ON_LINE, GOAL, 0, 1, 0)], [(ON_LINE, BAD, 9, 9, 9), (ON_LINE, GOAL, 0, 2, 9), (ON_LINE, GOAL, 0, 1, 9)]),
    (roots_of, [(ON_LINE, START, GOAL, 1)], [(ON_LINE, BAD, GOAL, 9), (ON_LINE, GOAL, START, 9), (ON_LINE, GOAL, START, 0)]),
    (carry_distances, [(ON_LINE, START, GOAL, 1)], [(ON_LINE, BAD, GOAL, 9), (ON_LINE, GOAL, START, 0)]),
    (carried_to, [(ON_LINE, START, GOAL, 1)], [(ON_LINE, BAD, GOAL, 9), (ON_LINE, GOAL, START, 0)]),
    (audit, [(ON_LINE, START, GOAL), (ON_LINE, GOAL, START), (ON_LINE, EMPTY, STUCK)], [(ON_LINE, BAD, GOAL)]),
    (reachable, [(ON_LINE, START, GOAL), (ON_LINE, GOAL, START)], [(ON_LINE, GOAL, BAD)]),
    (plan, [(ON_LINE, START, GOAL)], [(ON_LINE, BAD, BAD), (ON_LINE, GOAL, START), (ON_LINE, EMPTY, STUCK)]),
    (fits, [(ON_LINE, START, GOAL, ("write", 2))], [(ON_LINE, BAD, GOAL, ("write", 9))]),
    (fitting_actions, [(ON_LINE, START, GOAL)], [(ON_LINE, START, BAD)]),
    (earliest_rounds, [(ON_LINE, START, GOAL)], [(ON_LINE, BAD, GOAL), (ON_LINE, GOAL, START)]),
    (round_schedule, [(ON_LINE, START, GOAL)], [(ON_LINE, BAD, GOAL), (ON_LINE, EMPTY, STUCK)]),
    (join_logs, [(ON_LINE, START, GOAL)], [(ON_LINE, BAD, GOAL), (ON_LINE, [[1], [], []], GOAL)]),
    (link_fault, [(ON_LINE, STUCK, 2, 1)], [(ON_RING, BAD, 0, 2), (ON_LINE, BAD, 0, 2), (ON_LINE, GOAL, 0, 2)]),
    (tree_fault, [(ON_LINE, STUCK), (ON_LINE, GOAL)], [(ON_RING, BAD), (ON_LINE, BAD)]),
    (pair_fault, [(ON_LINE, STUCK), (ON_RING, GOAL)], [(ON_LINE, BAD)]),
    (pair_codes, [(ON_LINE, 0, 1), (ON_LINE, 1, 2)], [(ON_RING, 9, 0), (ON_LINE, 0, 9)]),
    (order_table, [(ON_LINE, FULL)], [(ON_RING, BAD), (ON_LINE, BAD), (ON_LINE, GOAL), (ON_LINE, STUCK)]),
    (logs_of_table, [(ON_LINE, TABLE)], [(ON_RING, {}), (ON_LINE, {}), (ON_LINE, {**TABLE, (0, 2): "behind"})]),
    (least_logs, [(ON_LINE, 0, [1, 0])], [(ON_RING, 9, [9]), (ON_LINE, 9, [9]), (ON_LINE, 0, [1, 1])]),
    (fewest_actions, [(ON_LINE, 0, [1, 0])], [(ON_RING, 9, [9]), (ON_LINE, HUGE, [9]), (ON_LINE, 0, [HUGE])]),
    (finish, [(ON_LINE, START), (ON_RING, GOAL)], [(APART, BAD), (ON_LINE, BAD)]),
    (finished_logs, [(ON_LINE, START), (ON_RING, GOAL)], [(APART, BAD), (ON_LINE, BAD)]),
    (last_entries, [(ON_LINE, START)], [(ON_LINE, BAD)]),
    (split_link, [(ON_LINE, FULL), (ON_LINE, [[0, 1, 2], [1, 2, 0], [1, 2, 0]])],
     [(ON_RING, BAD), (ON_LINE, BAD), (ON_LINE, GOAL), (ON_LINE, STUCK)]),
    (two_lasts_fault, [(ON_LINE, [0, 1, 1]), (ON_LINE, [1, 0, 0])],
     [(APART, []), (ON_LINE, [0, 9, 0]), (ON_LINE, [0, 1, 2])]),
    (tree_lasts_fault, [(ON_LINE, [0, 1, 1])], [(ON_RING, []), (ON_LINE, [0, 9, 0])]),
    (complete_lasts_fault, [(ON_ALL, [0, 1, 1]), (ON_ALL, [0, 1, 2])], [(ON_LINE, []), (ON_ALL, [0, 9, 0])]),
    (logs_with_lasts, [(ON_LINE, [1, 0, 0])],
     [(APART, []), (ON_LINE, []), (ON_RING, [0, 1, 2]), (ON_LINE, [0, 1, 1])]),
    (each_lasts, [(ON_LINE,)], [(ON_RING,)]),
    (count_lasts, [(ON_LINE,)], [(ON_RING,)]),
    (first_entries, [(ON_LINE, START)], [(ON_LINE, BAD)]),
    (firsts_fault, [(ON_LINE, [0, 1, 1]), (ON_LINE, [1, 0, 0])], [(APART, []), (ON_LINE, [0, 9, 0])]),
    (logs_with_firsts, [(ON_LINE, [0, 1, 1])], [(APART, []), (ON_LINE, []), (ON_LINE, [1, 0, 0])]),
    (count_firsts, [(ON_LINE,)], [(ON_RING,)]),
    (read_entry, [(ON_LINE, GOAL, KEYS, 0, "a")],
     [(ON_LINE, BAD, [], 9, "a"), (ON_LINE, GOAL, [], 9, "a"), (ON_LINE, GOAL, KEYS, HUGE, "a")]),
    (split_key, [(ON_LINE, FULL, KEYS, "a"), (ON_LINE, FULL, ["a"] * 3, "a")],
     [(ON_RING, BAD, [], "a"), (ON_LINE, BAD, [], "a"), (ON_LINE, GOAL, [], "a"), (ON_LINE, GOAL, KEYS, "a"),
      (ON_LINE, STUCK, KEYS, "a")]),
    (split_keys, [(ON_LINE, FULL, KEYS), (ON_LINE, FULL, ["a", "a", "b"])],
     [(ON_RING, BAD, []), (ON_LINE, BAD, []), (ON_LINE, GOAL, []), (ON_LINE, GOAL, KEYS), (ON_LINE, STUCK, KEYS)]),
    (frames, [([4, 0],)], []),
    (scan, [([0, 4, -5, 1, 7],)], []),
    (mend, [([0, 4, -5, 1, 7],), ([0, 4, -5],)], []),
    (run_disk, [(ON_LINE, EMPTY, HISTORY)], [(ON_LINE, BAD, HISTORY), (ON_LINE, START, HISTORY)]),
    (surviving, [(ON_LINE, EMPTY, HISTORY)], [(ON_LINE, BAD, HISTORY), (ON_LINE, START, HISTORY)]),
    (depths_of, [(ON_LINE, FULL)], [(ON_LINE, BAD), (ON_LINE, GOAL[:2] + [[0]])]),
    (depths_fault, [(ON_LINE, [0, 1, 0]), (ON_LINE, [0, 1, 1]), (ON_LINE, [0, -HUGE, HUGE])], []),
    (count_ring, [(ON_LINE,), (ON_RING,)], []),
    (each_depths, [(ON_LINE,), (ON_RING,)], []),
    (depth_run, [(ON_LINE, [0, 1, 0]), (ON_RING, [2, 1, 0])], [(APART, []), (ON_LINE, [0, 1, 1]), (ON_LINE, [])]),
    (ring_logs, [(ON_RING, [0, 1, 0])], [(ON_LINE, []), (ON_RING, [0, 1, 1])]),
    (ring_fault, [(ON_RING, SAME), (ON_RING, STUCK)], [(ON_LINE, BAD), (ON_RING, BAD), (ON_RING, GOAL)]),
    (restore_log, [(ON_RING, SAME, [0, 1, 2], 2)],
     [(ON_LINE, BAD, [], 9), (ON_RING, BAD, [], 9), (ON_RING, EMPTY, [], 9), (ON_RING, EMPTY, [0, 1, 2], HUGE),
      (ON_RING, EMPTY, [0, 1, 2], 0)]),
    (possible_homes, [(LINE, 3, GOAL)], [(LINE, 61, BAD), (LINE, -HUGE, BAD), (LINE, 3, BAD), (LINE, 2, GOAL)]),
    (no_home, [(LINE, 3, GOAL), (LINE, 3, [[0], [], [0]])], [(LINE, HUGE, BAD), (LINE, 3, BAD)]),
    (needed_links, [(ON_LINE, START, GOAL)], [(ON_LINE, BAD, GOAL), (ON_LINE, GOAL, START), (ON_LINE, EMPTY, STUCK)]),
    (lean_net, [(ON_ALL, START, GOAL)], [(ON_LINE, START, BAD), (ON_LINE, GOAL, START), (ON_LINE, EMPTY, STUCK)]),
    (helpful_links, [(APART, START, GOAL), (ON_LINE, GOAL, START)], [(ON_LINE, START, BAD)]),
    (suspects, [(ON_LINE, STUCK), (ON_LINE, GOAL)], [(ON_LINE, BAD)]),
    (free_fault, [(ON_LINE, GOAL), (ON_LINE, [[1, 0], [0, 1], [1]])], [(ON_RING, BAD), (ON_LINE, BAD)]),
    (free_plan, [(ON_LINE, GOAL)], [(ON_RING, BAD), (ON_LINE, BAD), (ON_LINE, [[], [0], []])]),
    (report_text, [(ON_LINE, GOAL, KEYS, VALUES)],
     [(ON_LINE, BAD, [], []), (ON_LINE, GOAL, [], VALUES), (ON_LINE, GOAL, ["a", "", "B"], VALUES)]),
]

# Functions whose second argument is logs, and those for which the third one is, too.
LOGS_FIRST = ("cluster, logs", "cluster, goal", "cluster, start", "cluster, now", "cluster, one")
TWO_LOGS = ("cluster, start, goal", "cluster, now, goal", "cluster, one, other")

# The kind of net that a function needs is checked before its logs: another net for it, and the error.
NET_ERRORS = {
    link_fault: (ON_RING, "NotTree()"), tree_fault: (ON_RING, "NotTree()"), order_table: (ON_RING, "NotTree()"),
    split_link: (ON_RING, "NotTree()"), split_key: (ON_RING, "NotTree()"), split_keys: (ON_RING, "NotTree()"),
    free_fault: (ON_RING, "NotTree()"), free_plan: (ON_RING, "NotTree()"), finish: (APART, "NotStrong()"),
    finished_logs: (APART, "NotStrong()"), ring_fault: (ON_LINE, "NotRing()"), restore_log: (ON_LINE, "NotRing()"),
}
WRONG_LOGS = [
    ([[], []], "InvalidLogs(replica=None)"), ([[], [], [], []], "InvalidLogs(replica=None)"),
    ([[0], [3], [-1]], "InvalidLogs(replica=1)"), ([[0, 0], [3], []], "InvalidLogs(replica=0)"),
    ([[], [], [0, HUGE]], "InvalidLogs(replica=2)"), ([[-HUGE], [], []], "InvalidLogs(replica=0)"),
    ([[0, 1, 2], [1], [2, 0, 2]], "InvalidLogs(replica=2)"),
]


def head_of(function):
    """The parameters of the function, as the interface writes them."""
    return FUNCTIONS[function.__module__.removeprefix("pullstore.")][function.__name__]


class FunctionsTest(PromiseCase):
    def test_each_function_of_the_interface_is_asked(self):
        asked = {(function.__module__.removeprefix("pullstore."), function.__name__) for function, _, _ in QUESTIONS}
        listed = {(name, word) for name, functions in FUNCTIONS.items() for word in functions}
        self.assertEqual(asked, listed)

    def test_each_answer_is_new_and_equal_the_second_time_and_changes_nothing(self):
        for function, answered, refused in QUESTIONS:
            for arguments in answered:
                with self.subTest(function.__name__, arguments=plain(arguments)):
                    self.ask(function, *arguments)
                    self.assertFalse(is_error(outcome(function, arguments, {})))
            for arguments in refused:
                with self.subTest(function.__name__, arguments=plain(arguments)):
                    self.ask(function, *arguments)
                    self.assertTrue(is_error(outcome(function, arguments, {})))

    def test_invalid_logs_come_directly_after_the_errors_about_the_net(self):
        for function, answered, refused in QUESTIONS:
            head = head_of(function)
            if not head.startswith(tuple(f"({one}" for one in LOGS_FIRST)):
                continue
            for arguments in answered + refused:
                cluster = answered[0][0]
                for logs, error in WRONG_LOGS:
                    rest = arguments[2:]
                    self.refused(error, function, cluster, logs, *rest)
                    if head.startswith(tuple(f"({one}" for one in TWO_LOGS)):
                        self.refused(error, function, cluster, START, logs, *rest[1:])
                        # The first of two logs is checked first.
                        self.refused("InvalidLogs(replica=1)", function, cluster, BAD, logs, *rest[1:])
                    if function in NET_ERRORS:
                        other, first = NET_ERRORS[function]
                        self.refused(first, function, other, logs, *rest)

    def refused(self, error, function, *arguments):
        """The error comes before all else, also before what a generator yields."""
        answer = outcome(function, arguments, {})
        if isinstance(answer, list):
            self.assertEqual(len(answer), 1)
            answer = answer[0]
        self.assertEqual(plain(answer), error, (function.__name__, plain(arguments)))

    def test_generators_check_their_arguments_when_an_item_is_requested(self):
        for function, arguments, error in [
            (each_state, (ON_LINE, BAD, TRACE), "InvalidLogs(replica=1)"), (each_lasts, (ON_RING,), "NotTree()"),
        ]:
            waiting = function(*arguments)
            self.assertEqual(plain(outcome(lambda: waiting, (), {})), [error])


def last_of(answer):
    return answer[-1] if isinstance(answer, list) and answer else answer


def is_error(answer):
    """Whether the outcome is an error, or ends with one."""
    return last_of(answer).__class__.__name__ == "Raised"


class ClassesTest(PromiseCase):
    def test_each_class_of_the_interface_is_made(self):
        made = [
            (Net, (3, [(0, 1), (1, 2)])), (Cluster, (LINE, [0, 2])), (Evidence, ("kind",)), (PrefixFault, (1,)),
            (Barrier, (1, [2, 0])), (Schedule, (TRACE,)), (Guide, (ON_LINE, START, GOAL)), (DiskStore, (ON_LINE, START)),
            (Desk, (ON_LINE, KEYS, VALUES)),
        ]
        listed = {word for classes in CLASSES.values() for word in classes}
        self.assertEqual({one.__name__ for one, _ in made}, listed)
        for one, arguments in made:
            self.ask(one, *arguments)
            # Each property and method without arguments that only answers.
            for name in ("links", "homes", "logs", "left", "saved", "goal"):
                if hasattr(one, name):
                    self.ask(lambda: getattr(one(*arguments), name))
            for name in ("next_action", "taken", "history", "fork", "report"):
                if hasattr(one, name):
                    self.ask(getattr(one(*arguments), name))

    def test_later_changes_to_an_argument_have_no_effect(self):
        links, homes, inside = [(0, 1), (1, 0), (1, 2), (2, 1)], [0, 2, 2], [0, 1]
        trace, start, goal = list(TRACE), [list(log) for log in START], [list(log) for log in GOAL]
        keys, values = list(KEYS), list(VALUES)
        net = Net(3, links)
        cluster = Cluster(net, homes)
        made = [net, cluster, Barrier(1, inside), Schedule(trace), Guide(cluster, start, goal), DiskStore(cluster, start),
                Desk(cluster, keys, values)]
        made[-1].set_goal(goal)
        before = plain(made)
        for one in (links, homes, inside, trace, start[0], start, goal[0], goal, keys, values):
            one.clear()
        self.assertEqual(plain(made), before)
        # The same holds for the objects that were passed.
        before = plain(made[2:])
        cluster.size = 1
        cluster.net = Net(1, [])
        net.count = 1
        self.assertEqual(plain(made[2:]), before)

    def test_what_is_returned_is_not_kept(self):
        desk = Desk(ON_LINE, KEYS, VALUES)
        desk.goal = GOAL
        desk.advance(3)
        desk.undo()
        store = run_disk(ON_LINE, EMPTY, HISTORY)
        guide = Guide(ON_LINE, START, GOAL)
        guide.take(("write", 2))
        for one, names in [(desk, ("logs", "goal")), (store, ("logs", "saved")), (guide, ("logs",))]:
            before = plain(one)
            for name in names:
                answer = getattr(one, name)
                for log in answer:
                    log.append(7)
                answer.append([])
            for name in ("taken", "history"):
                if hasattr(one, name):
                    getattr(one, name)().clear()
            self.assertEqual(plain(one), before)

    def test_properties_without_a_setter_cannot_be_assigned(self):
        for one, names in [(Net(1, []), ["links"]), (Cluster(LINE, [0]), ["homes"]),
                           (Guide(ON_LINE, START, GOAL), ["logs", "left"]), (DiskStore(ON_LINE, START), ["logs", "saved"]),
                           (Desk(ON_LINE, KEYS, VALUES), ["logs", "left"])]:
            before = plain(one)
            for name in names:
                with self.assertRaises(AttributeError):
                    setattr(one, name, getattr(one, name))
            self.assertEqual(plain(one), before)


if __name__ == "__main__":
    unittest.main()
