"""Actions and runs: points 8 and 9, and the heading pullstore/run.py."""

import inspect
import unittest

from helpers import (
    HUGE, NOWHERE, PromiseCase, after_action, chances, every_action, offered, possible, some_cluster, some_logs,
    some_run,
)
from pullstore.cluster import Cluster
from pullstore.errors import BadTrace, InvalidLogs, UnknownRule
from pullstore.net import Net
from pullstore.run import ANY, FIRST, allowed_actions, apply_action, each_state, offers, replay

RULES = [FIRST, ANY]
WRONG_RULES = ["", "First", "last", "first "]


class OffersTest(PromiseCase):
    def setUp(self):
        self.cluster = Cluster(Net.line(3), [0, 2, 2, 0])
        self.logs = [[0, 3], [1], [2, 3, 1, 0]]

    def test_first_offers_the_first_entry_that_the_reader_lacks(self):
        self.gives([0], offers, self.cluster, self.logs, 0, 1, rule=FIRST)
        self.gives([2], offers, self.cluster, self.logs, 2, 1, rule=FIRST)
        self.gives([1], offers, self.cluster, self.logs, 1, 0, rule=FIRST)
        self.gives([], offers, self.cluster, self.logs, 1, 2, rule=FIRST)

    def test_any_offers_all_of_them_in_the_order_of_the_source(self):
        self.gives([0, 3], offers, self.cluster, self.logs, 0, 1, rule=ANY)
        self.gives([2, 3, 0], offers, self.cluster, self.logs, 2, 1, rule=ANY)
        self.gives([1], offers, self.cluster, self.logs, 1, 0, rule=ANY)
        self.gives([], offers, self.cluster, self.logs, 1, 2, rule=ANY)

    def test_without_a_rule_it_is_first(self):
        self.gives([2], offers, self.cluster, self.logs, 2, 1)

    def test_the_first_one_skips_what_the_reader_holds(self):
        self.gives([3], offers, self.cluster, [[], [0, 2], [2, 0, 3, 1]], 2, 1)

    def test_pairs_that_are_no_links(self):
        for source, reader in [(0, 2), (2, 0), (0, 0), (1, 1)]:
            error = f"NotLinked(source={source}, reader={reader})"
            self.fails(error, offers, self.cluster, self.logs, source, reader)
        for wrong in [3, *NOWHERE]:
            self.fails(f"NotLinked(source={wrong}, reader=1)", offers, self.cluster, self.logs, wrong, 1)
            self.fails(f"NotLinked(source=1, reader={wrong})", offers, self.cluster, self.logs, 1, wrong)

    def test_a_link_is_read_in_its_direction_only(self):
        cluster = Cluster(Net(2, [(0, 1)]), [0])
        self.gives([0], offers, cluster, [[0], []], 0, 1)
        self.fails("NotLinked(source=1, reader=0)", offers, cluster, [[], [0]], 1, 0)

    def test_the_order_of_the_errors(self):
        for rule in WRONG_RULES:
            self.fails("InvalidLogs(replica=None)", offers, self.cluster, [], 9, 9, rule=rule)
            self.fails("InvalidLogs(replica=1)", offers, self.cluster, [[], [4], []], 9, 9, rule=rule)
            self.fails(f"UnknownRule(rule={rule!r})", offers, self.cluster, self.logs, 9, 9, rule=rule)
            self.fails(f"UnknownRule(rule={rule!r})", offers, self.cluster, self.logs, 0, 1, rule=rule)
        self.fails("InvalidLogs(replica=2)", offers, self.cluster, [[], [], [1, 1]], 9, 9)


class AllowedTest(PromiseCase):
    def test_writes_come_before_pulls_and_all_in_their_order(self):
        cluster = Cluster(Net.line(3), [0, 2, 2, 0, 1])
        logs = [[3], [], [2, 1]]
        first = [("write", 0), ("write", 4), ("pull", 0, 1, 3), ("pull", 2, 1, 2)]
        every = first[:4] + [("pull", 2, 1, 1)]
        self.gives(first, allowed_actions, cluster, logs)
        self.gives(first, allowed_actions, cluster, logs, rule=FIRST)
        self.gives(every, allowed_actions, cluster, logs, rule=ANY)

    def test_links_ascend_but_entries_have_the_order_of_the_source(self):
        cluster = Cluster(Net(3, [(2, 0), (0, 1), (2, 1)]), [2, 2, 2])
        logs = [[1], [], [2, 0, 1]]
        every = [("pull", 0, 1, 1), ("pull", 2, 0, 2), ("pull", 2, 0, 0),
                 ("pull", 2, 1, 2), ("pull", 2, 1, 0), ("pull", 2, 1, 1)]
        self.gives(every, allowed_actions, cluster, logs, rule=ANY)
        self.gives([every[0], every[1], every[3]], allowed_actions, cluster, logs)

    def test_nothing_is_allowed(self):
        self.gives([], allowed_actions, Cluster(Net.line(2), []), [[], []])
        self.gives([], allowed_actions, Cluster(Net.line(2), [0]), [[0], [0]], rule=ANY)

    def test_errors_in_their_order(self):
        cluster = Cluster(Net.line(2), [0])
        for rule in WRONG_RULES:
            self.fails("InvalidLogs(replica=0)", allowed_actions, cluster, [[1], []], rule=rule)
            self.fails(f"UnknownRule(rule={rule!r})", allowed_actions, cluster, [[0], []], rule=rule)

    def test_against_the_words_of_the_document(self):
        for chance in chances(120, "allowed"):
            cluster = some_cluster(chance, 5)
            logs = some_logs(chance, cluster)
            for rule in RULES:
                self.gives(possible(cluster, logs, rule), allowed_actions, cluster, logs, rule=rule)
            for x, y in cluster.net.links:
                for rule in RULES:
                    self.gives(offered(logs, x, y, rule), offers, cluster, logs, x, y, rule=rule)


class ApplyTest(PromiseCase):
    def setUp(self):
        self.cluster = Cluster(Net.line(3), [0, 2, 2])

    def test_a_write_appends_to_the_log_of_the_home(self):
        self.gives([[0], [], []], apply_action, self.cluster, [[], [], []], ("write", 0))
        self.gives([[], [], [2, 1]], apply_action, self.cluster, [[], [], [2]], ("write", 1))

    def test_a_pull_appends_to_the_log_of_the_reader(self):
        self.gives([[0], [0], []], apply_action, self.cluster, [[0], [], []], ("pull", 0, 1, 0))
        self.gives([[0], [2, 1, 0], []], apply_action, self.cluster, [[0], [2, 1], []], ("pull", 0, 1, 0))

    def test_an_entry_that_is_held_is_not_written(self):
        for logs in ([[0], [], []], [[], [0], []], [[], [], [0]]):
            for rule in RULES:
                self.fails("NotAllowed(action=('write', 0))", apply_action, self.cluster, logs,
                           ("write", 0), rule=rule)

    def test_the_rules_differ_at_later_entries(self):
        logs = [[], [], [1, 2]]
        action = ("pull", 2, 1, 2)
        self.fails("NotAllowed(action=('pull', 2, 1, 2))", apply_action, self.cluster, logs, action)
        self.fails("NotAllowed(action=('pull', 2, 1, 2))", apply_action, self.cluster, logs, action, rule=FIRST)
        self.gives([[], [2], [1, 2]], apply_action, self.cluster, logs, action, rule=ANY)

    def test_an_entry_that_the_reader_holds_or_the_source_lacks(self):
        for rule in RULES:
            for action in [("pull", 0, 1, 0), ("pull", 1, 2, 1), ("pull", 2, 1, 2)]:
                self.fails(f"NotAllowed(action={action})", apply_action, self.cluster,
                           [[0], [0], [1]], action, rule=rule)

    def test_pairs_that_are_no_links(self):
        logs = [[0], [], [1]]
        for rule in RULES:
            for action in [("pull", 0, 2, 0), ("pull", 2, 0, 1), ("pull", 0, 0, 0), ("pull", 0, 0, 1)]:
                self.fails(f"NotAllowed(action={action})", apply_action, self.cluster, logs, action, rule=rule)

    def test_replicas_and_entries_that_do_not_exist(self):
        # Each entry is somewhere, so that a negative index would find one.
        logs = [[0, 1], [2], [2, 1]]
        for wrong in [3, *NOWHERE]:
            for action in [("write", wrong), ("pull", wrong, 1, 0), ("pull", 0, wrong, 0),
                           ("pull", 0, 1, wrong), ("pull", wrong, wrong, wrong)]:
                for rule in RULES:
                    self.fails(f"NotAllowed(action={action})", apply_action, self.cluster, logs,
                               action, rule=rule)
        self.fails("NotAllowed(action=('pull', -3, -2, 0))", apply_action, self.cluster, logs, ("pull", -3, -2, 0))
        self.fails("NotAllowed(action=('write', -1))", apply_action, self.cluster, [[], [], []], ("write", -1))

    def test_errors_in_their_order(self):
        wrong = ("write", HUGE)
        for rule in WRONG_RULES:
            self.fails("InvalidLogs(replica=1)", apply_action, self.cluster, [[], [3], []], wrong, rule=rule)
            self.fails(f"UnknownRule(rule={rule!r})", apply_action, self.cluster, [[], [], []], wrong, rule=rule)
        self.fails("InvalidLogs(replica=1)", apply_action, self.cluster, [[], [3], []], wrong)

    def test_every_action_against_the_words_of_the_document(self):
        for chance in chances(25, "apply"):
            cluster = some_cluster(chance, 3)
            logs = some_logs(chance, cluster)
            for rule in RULES:
                allowed = possible(cluster, logs, rule)
                for action in every_action(cluster):
                    if action in allowed:
                        later = after_action(cluster, logs, action)
                        self.gives(later, apply_action, cluster, logs, action, rule=rule)
                    else:
                        error = f"NotAllowed(action={action})"
                        self.fails(error, apply_action, cluster, logs, action, rule=rule)


class ReplayTest(PromiseCase):
    def setUp(self):
        self.cluster = Cluster(Net.line(2), [0, 0, 1])
        self.trace = [("write", 0), ("write", 1), ("pull", 0, 1, 0), ("write", 2), ("pull", 0, 1, 1)]
        self.states = [[[0], []], [[0, 1], []], [[0, 1], [0]], [[0, 1], [0, 2]], [[0, 1], [0, 2, 1]]]

    def test_the_logs_after_the_trace(self):
        self.gives(self.states[-1], replay, self.cluster, [[], []], self.trace)
        self.gives(self.states[-1], replay, self.cluster, self.states[1], self.trace[2:])

    def test_the_logs_after_each_action(self):
        self.gives(self.states, each_state, self.cluster, [[], []], self.trace)
        self.gives(self.states[2:], each_state, self.cluster, self.states[1], self.trace[2:])

    def test_the_empty_trace(self):
        for rule in RULES:
            self.gives([[1], [2]], replay, self.cluster, [[1], [2]], [], rule=rule)
            self.gives([], each_state, self.cluster, [[1], [2]], [], rule=rule)

    def test_the_empty_trace_with_a_spoilt_start_or_an_unknown_rule(self):
        for rule in WRONG_RULES:
            self.fails("InvalidLogs(replica=1)", replay, self.cluster, [[], [3]], [], rule=rule)
            self.fails(f"UnknownRule(rule={rule!r})", replay, self.cluster, [[], []], [], rule=rule)
            self.gives(["InvalidLogs(replica=1)"], each_state, self.cluster, [[], [3]], [], rule=rule)
            self.gives([f"UnknownRule(rule={rule!r})"], each_state, self.cluster, [[], []], [], rule=rule)
        self.fails("InvalidLogs(replica=None)", replay, self.cluster, [[]], [])
        self.gives(["InvalidLogs(replica=None)"], each_state, self.cluster, [[]], [])

    def test_the_index_of_the_first_action_that_is_not_allowed(self):
        for index in range(len(self.trace) + 1):
            for bad in [("write", 3), ("write", -1), ("pull", 1, 1, 0), ("pull", 0, 2, 0), ("pull", 0, 1, HUGE)]:
                trace = self.trace[:index] + [bad] + self.trace[index:] + [("write", 9)]
                self.fails(f"BadTrace(index={index})", replay, self.cluster, [[], []], trace)
                told = self.states[:index] + [f"BadTrace(index={index})"]
                self.gives(told, each_state, self.cluster, [[], []], trace)

    def test_the_other_errors_come_before_bad_trace(self):
        bad = [("write", 7)]
        for rule in WRONG_RULES:
            self.fails("InvalidLogs(replica=0)", replay, self.cluster, [[0, 0], []], bad, rule=rule)
            self.fails(f"UnknownRule(rule={rule!r})", replay, self.cluster, [[], []], bad, rule=rule)
            self.gives(["InvalidLogs(replica=0)"], each_state, self.cluster, [[0, 0], []], bad, rule=rule)
            self.gives([f"UnknownRule(rule={rule!r})"], each_state, self.cluster, [[], []], bad, rule=rule)

    def test_under_the_rule_any(self):
        trace = [("write", 0), ("write", 1), ("pull", 0, 1, 1), ("pull", 0, 1, 0)]
        self.gives([[0, 1], [1, 0]], replay, self.cluster, [[], []], trace, rule=ANY)
        self.fails("BadTrace(index=2)", replay, self.cluster, [[], []], trace)
        states = [[[0], []], [[0, 1], []], [[0, 1], [1]], [[0, 1], [1, 0]]]
        self.gives(states, each_state, self.cluster, [[], []], trace, rule=ANY)
        self.gives(states[:2] + ["BadTrace(index=2)"], each_state, self.cluster, [[], []], trace, rule=FIRST)

    def test_an_entry_is_not_appended_twice(self):
        trace = self.trace + [("pull", 1, 0, 2)]
        for action in trace:
            self.fails("BadTrace(index=6)", replay, self.cluster, [[], []], trace + [action])

    def test_runs_against_the_words_of_the_document(self):
        for chance in chances(80, "replay"):
            cluster = some_cluster(chance, 5)
            start = some_logs(chance, cluster)
            rule = chance.choice(RULES)
            trace, logs = some_run(chance, cluster, start, 30, rule)
            states = []
            now = start
            for action in trace:
                now = after_action(cluster, now, action)
                states.append(now)
            self.gives(logs, replay, cluster, start, trace, rule=rule)
            self.gives(states, each_state, cluster, start, trace, rule=rule)

    def test_a_run_is_no_longer_than_replicas_times_entries(self):
        cluster = Cluster(Net.complete(24), [entry % 24 for entry in range(60)])
        trace = [("write", entry) for entry in range(60)]
        logs = [[entry for entry in range(60) if entry % 24 == x] for x in range(24)]
        for reader in range(24):
            for source in range(24):
                for entry in [entry for entry in logs[source] if entry not in logs[reader]]:
                    trace.append(("pull", source, reader, entry))
                    logs[reader] = logs[reader] + [entry]
        self.assertEqual(len(trace), 24 * 60)
        self.assertEqual(replay(cluster, [[]] * 24, trace), logs)
        for more in [("write", 0), ("pull", 0, 1, 0)]:
            with self.assertRaises(BadTrace) as caught:
                replay(cluster, [[]] * 24, trace + [more] * (4000 - 1440))
            self.assertEqual(caught.exception.index, 1440)


class GeneratorTest(unittest.TestCase):
    def setUp(self):
        self.cluster = Cluster(Net.line(2), [0, 0, 1])
        self.trace = [("write", 0), ("write", 1), ("pull", 0, 1, 0)]

    def test_it_checks_when_the_first_item_is_requested(self):
        for start, rule, error in [([[9], []], "odd", InvalidLogs), ([[], []], "odd", UnknownRule)]:
            for trace in (self.trace, []):
                states = each_state(self.cluster, start, trace, rule=rule)
                self.assertTrue(inspect.isgenerator(states))
                with self.assertRaises(error):
                    next(states)
        states = each_state(self.cluster, [[], []], [("write", 3)])
        with self.assertRaises(BadTrace):
            next(states)

    def test_the_logs_before_a_bad_action_are_yielded_first(self):
        states = each_state(self.cluster, [[], []], self.trace[:2] + [("write", 0)])
        self.assertEqual(next(states), [[0], []])
        self.assertEqual(next(states), [[0, 1], []])
        with self.assertRaises(BadTrace) as caught:
            next(states)
        self.assertEqual(caught.exception.index, 2)
        self.assertEqual(list(states), [])

    def test_changing_a_yielded_list_changes_no_later_one(self):
        start = [[], []]
        states = each_state(self.cluster, start, self.trace)
        first = next(states)
        first[0].append(77)
        first[1].clear()
        first.pop()
        second = next(states)
        self.assertEqual(second, [[0, 1], []])
        second[0].clear()
        self.assertEqual(next(states), [[0, 1], [0]])
        self.assertEqual(start, [[], []])

    def test_no_list_is_yielded_twice(self):
        states = list(each_state(self.cluster, [[], []], self.trace))
        found = [id(log) for logs in states for log in logs] + [id(logs) for logs in states]
        self.assertEqual(len(found), len(set(found)))

    def test_the_start_itself_is_not_yielded(self):
        self.assertEqual(list(each_state(self.cluster, [[0], []], [])), [])
        self.assertEqual(list(each_state(self.cluster, [[0], []], [("write", 2)])), [[[0], [2]]])

    def test_two_generators_do_not_disturb_each_other(self):
        one = each_state(self.cluster, [[], []], self.trace)
        other = each_state(self.cluster, [[], []], self.trace)
        pairs = list(zip(one, other))
        self.assertEqual([first for first, _ in pairs], [second for _, second in pairs])


if __name__ == "__main__":
    unittest.main()
