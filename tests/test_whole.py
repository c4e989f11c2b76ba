"""Point 1 and what the parts of the program tell about the same states."""

import itertools
import unittest

from helpers import PromiseCase, chances, naive_strong, plain, some_cluster, some_history, some_logs, some_run
from pullstore.audit import audit, fitting_actions, plan, reachable
from pullstore.cluster import Cluster
from pullstore.depths import depth_run, depths_fault, depths_of
from pullstore.desk import Desk
from pullstore.errors import StoreError, Unreachable
from pullstore.finish import finish, finished_logs
from pullstore.free import free_fault, free_plan
from pullstore.guide import Guide
from pullstore.infer import fewest_actions, least_logs
from pullstore.links import helpful_links, lean_net, needed_links, suspects
from pullstore.logs import is_full, missing_pairs, restrict
from pullstore.net import Net
from pullstore.owners import no_home, possible_homes
from pullstore.paths import is_ring, is_strong, is_tree
from pullstore.readings import read_entry
from pullstore.ring import restore_log, ring_fault, ring_logs
from pullstore.rounds import round_schedule
from pullstore.run import ANY, allowed_actions, each_state, replay
from pullstore.survive import run_disk, surviving
from pullstore.treecheck import pair_fault, tree_fault


def empty_for(cluster):
    return [[] for _ in range(cluster.net.count)]


def some_states(name, many):
    """Clusters with logs, of which many are reachable."""
    for chance in chances(many, name):
        cluster = some_cluster(chance, 4)
        kind = chance.randrange(4)
        if kind == 0:
            logs = some_logs(chance, cluster)
        elif kind == 1 and is_strong(cluster.net):
            logs = finished_logs(cluster, some_run(chance, cluster, empty_for(cluster), 6)[1])
        else:
            logs = some_run(chance, cluster, empty_for(cluster), 15)[1]
        if chance.random() < 0.3:
            # Two neighbours in one log change places.
            log = chance.choice(logs)
            if len(log) > 1:
                at = chance.randrange(len(log) - 1)
                log[at], log[at + 1] = log[at + 1], log[at]
        yield chance, cluster, logs


class LogsOnlyGrowTest(PromiseCase):
    def test_each_action_appends_one_entry_to_one_log(self):
        for chance in chances(60, "appends"):
            cluster = some_cluster(chance, 5)
            before = empty_for(cluster)
            trace, _ = some_run(chance, cluster, before, 25, chance.choice(["first", "any"]))
            for action, after in zip(trace, each_state(cluster, before, trace, rule=ANY)):
                place = cluster.home_of(action[1]) if action[0] == "write" else action[2]
                for replica, log in enumerate(after):
                    appended = [action[-1]] if replica == place else []
                    self.assertEqual(log, before[replica] + appended)
                before = after

    def test_a_replica_writes_its_own_news_and_pulls_the_first_entry_that_it_lacks(self):
        for _, cluster, logs in some_states("allowed", 80):
            for action in allowed_actions(cluster, logs):
                if action[0] == "write":
                    self.assertFalse(any(action[1] in log for log in logs))
                else:
                    _, source, reader, entry = action
                    self.assertTrue(cluster.net.has_link(source, reader))
                    lacking = [one for one in logs[source] if one not in logs[reader]]
                    self.assertEqual(lacking[0], entry)

    def test_the_audit_gives_a_schedule_or_evidence_that_there_is_none(self):
        kinds = set()
        for chance, cluster, goal in some_states("audits", 150):
            start = [log[:chance.randint(0, len(log))] for log in goal]
            if chance.random() < 0.5:
                start = some_logs(chance, cluster)
            for before in (empty_for(cluster), start):
                found = audit(cluster, before, goal)
                kinds.add(found.kind)
                self.assertIs(found.holds(cluster, before, goal), True)
                self.assertEqual(found.kind == "schedule", reachable(cluster, before, goal))
                if found.kind == "schedule":
                    self.assertEqual(replay(cluster, before, found.trace), goal)
                    self.assertEqual(len(found.trace), len(missing_pairs(cluster, before, goal)))
        self.assertEqual(kinds, {"schedule", "barrier", "prefix"})


class SameAnswerTest(PromiseCase):
    def test_every_part_tells_the_same_about_reachable_logs(self):
        seen = set()
        for _, cluster, logs in some_states("same answer", 400):
            net = cluster.net
            empty = empty_for(cluster)
            expected = reachable(cluster, empty, logs)
            seen.add((expected, is_tree(net), is_ring(net) and is_full(cluster, logs)))
            homes = possible_homes(net, cluster.size, logs)
            self.assertEqual(all(cluster.home_of(entry) in homes[entry] for entry in range(cluster.size)), expected)
            self.assertEqual(no_home(net, cluster.size, logs) is None, all(homes))
            if is_tree(net):
                self.assertEqual(tree_fault(cluster, logs) is None, expected)
                self.assertEqual(pair_fault(cluster, logs) is None, expected)
            if is_ring(net) and is_full(cluster, logs):
                self.assertEqual(ring_fault(cluster, logs) is None, expected)
            if expected:
                self.accepts(cluster, logs)
            else:
                self.refuses(cluster, logs)
        self.assertEqual(len(seen), 8)

    def accepts(self, cluster, logs):
        """What the parts of the program say of logs that are reachable."""
        empty = empty_for(cluster)
        trace = plan(cluster, empty, logs)
        self.assertEqual([helpful_links(cluster, empty, logs), suspects(cluster, logs)], [[], []])
        self.assertIsNone(pair_fault(cluster, logs))
        guide = Guide(cluster, empty, logs)
        desk = Desk(cluster, ["k"] * cluster.size, [0] * cluster.size)
        desk.goal = logs
        self.assertEqual(guide.left, desk.left)
        self.assertEqual(desk.advance(len(trace)), trace)
        rounds = round_schedule(cluster, empty, logs)
        self.assertEqual(replay(cluster, empty, [action for one in rounds for action in one]), logs)
        lean = lean_net(cluster, empty, logs)
        self.assertTrue(reachable(cluster.on_net(lean), empty, logs))
        for link in needed_links(cluster, empty, logs):
            self.assertIn(link, lean.links)
            self.assertFalse(reachable(cluster.on_net(cluster.net.without_link(*link)), empty, logs))
        if is_tree(cluster.net):
            self.assertIsNone(free_fault(cluster, logs))
            self.assertEqual(replay(cluster, empty, free_plan(cluster, logs), rule=ANY), logs)
            for replica, log in enumerate(logs):
                least = least_logs(cluster, replica, log)
                self.assertEqual(fewest_actions(cluster, replica, log), sum(map(len, least)))
                for one, other in zip(least, logs):
                    self.assertEqual(one, [entry for entry in other if entry in one])
        if is_full(cluster, logs):
            depths = depths_of(cluster, logs)
            self.assertIsNone(depths_fault(cluster, depths))
            if is_ring(cluster.net):
                self.assertEqual(ring_logs(cluster, depths), logs)
                for replica in range(cluster.net.count):
                    self.assertEqual(restore_log(cluster, logs, depths, replica), logs[replica])

    def refuses(self, cluster, logs):
        """What the parts of the program say of logs that are not reachable."""
        empty = empty_for(cluster)
        error = plain(audit(cluster, empty, logs))
        desk = Desk(cluster, ["k"] * cluster.size, [0] * cluster.size)
        for function, arguments in [(plan, (cluster, empty, logs)), (Guide, (cluster, empty, logs)),
                                    (desk.set_goal, (logs,)), (needed_links, (cluster, empty, logs)),
                                    (lean_net, (cluster, empty, logs)), (round_schedule, (cluster, empty, logs))]:
            with self.assertRaises(Unreachable) as caught:
                function(*arguments)
            self.assertEqual(plain(caught.exception.evidence), error)
        for link in helpful_links(cluster, empty, logs):
            self.assertTrue(reachable(cluster.on_net(cluster.net.with_link(*link)), empty, logs))
        for entry in suspects(cluster, logs):
            others = [other for other in range(cluster.size) if other != entry]
            self.assertTrue(reachable(cluster, empty, restrict(cluster, logs, *others)))

    def test_whoever_takes_actions_that_fit_does_not_get_stuck(self):
        for chance, cluster, goal in some_states("fitting", 120):
            empty = empty_for(cluster)
            if not reachable(cluster, empty, goal):
                continue
            desk = Desk(cluster, ["k"] * cluster.size, [0] * cluster.size)
            guide = Guide(cluster, empty, goal)
            desk.goal = goal
            while desk.left:
                action = chance.choice(fitting_actions(cluster, desk.logs, goal))
                desk.do(action)
                guide.take(action)
            self.assertEqual([desk.logs, guide.logs], [goal, goal])

    def test_crashes_lead_to_logs_that_runs_lead_to(self):
        for chance in chances(60, "crashes"):
            cluster = some_cluster(chance, 4)
            empty = empty_for(cluster)
            history, _ = some_history(chance, cluster, empty, 40)
            logs = run_disk(cluster, empty, history).logs
            self.assertTrue(reachable(cluster, empty, logs))
            self.assertEqual(replay(cluster, empty, surviving(cluster, empty, history)), logs)

    def test_full_logs_of_strong_nets(self):
        for chance in chances(60, "full logs"):
            cluster = some_cluster(chance, 4)
            if not naive_strong(cluster.net):
                continue
            empty = empty_for(cluster)
            logs = replay(cluster, empty, finish(cluster, empty))
            run = depth_run(cluster, depths_of(cluster, logs))
            other = replay(cluster, empty, run)
            self.assertEqual(depths_of(cluster, other), depths_of(cluster, logs))
            self.assertTrue(is_full(cluster, other))

    def test_a_desk_reads_as_the_readings_say(self):
        for chance, cluster, _ in some_states("readings", 60):
            key_of = [chance.choice("ab") for _ in range(cluster.size)]
            value_of = list(range(cluster.size))
            desk = Desk(cluster, key_of, value_of)
            desk.attempt(*some_run(chance, cluster, empty_for(cluster), 15)[0])
            for replica, key in itertools.product(range(cluster.net.count), ["a", "b", "c"]):
                self.assertEqual(desk.read(replica, key), read_entry(cluster, desk.logs, key_of, replica, key))


class ErrorsTest(PromiseCase):
    def test_each_error_of_the_program_is_a_value_error(self):
        cluster = Cluster(Net.line(2), [0, 1])
        desk = Desk(cluster, ["a", "a"], [1, 2])
        for call in (lambda: Net(0, []), lambda: Cluster(Net.line(2), [2]), lambda: audit(cluster, [], []), desk.undo,
                     desk.redo, desk.advance, lambda: desk.do(("write", 2)), lambda: desk.read(2, "a"), desk.splits,
                     lambda: Desk(cluster, [], []), lambda: setattr(desk, "goal", [[1], []])):
            with self.assertRaises(StoreError) as caught:
                call()
            self.assertIsInstance(caught.exception, ValueError)


if __name__ == "__main__":
    unittest.main()
