"""What survives crashes: point 31, and the heading pullstore/survive.py."""

import unittest

from helpers import (
    NOWHERE, PlainDisks, PromiseCase, all_reached, chances, cut_logs, every_disk_action, naive_run, plain,
    some_cluster, some_history, some_logs, some_run,
)
from pullstore.cluster import Cluster
from pullstore.diskstore import DiskStore
from pullstore.net import Net
from pullstore.survive import run_disk, surviving

FUNCTIONS = (run_disk, surviving)
HISTORY = [("write", 0), ("save", 0, 3), ("pull", 0, 1, 0), ("write", 1), ("save", 0, 2), ("crash", 0)]


def naive_surviving(cluster, logs, history):
    """Point 31, word by word; the logs are the current ones at the end."""
    found = []
    for index, action in enumerate(history):
        if action[0] in ("write", "pull"):
            place = place_of(cluster, action)
            later = [one for one in history[index + 1:] if one[0] in ("write", "pull")]
            again = any(place_of(cluster, one) == place and one[-1] == action[-1] for one in later)
            if action[-1] in logs[place] and not again:
                found.append(action)
    return found


def place_of(cluster, action):
    """The replica to whose log the write or pull appends."""
    return cluster.homes[action[1]] if action[0] == "write" else action[2]


class RunDiskTest(PromiseCase):
    def setUp(self):
        self.cluster = Cluster(Net.line(2), [0, 0])

    def test_the_disk_store_after_the_history(self):
        expected = ("DiskStore", [[0], [0]], [[0], []], [(False, [0, 0, -1, 1, 1]), (True, [])], HISTORY)
        self.gives(expected, run_disk, self.cluster, [[], []], HISTORY)
        expected = ("DiskStore", [[0], [0]], [[0], []], [(True, [0, 0, -1]), (True, [])], HISTORY + [("recover", 0)])
        self.gives(expected, run_disk, self.cluster, [[], []], HISTORY + [("recover", 0)])

    def test_no_actions(self):
        expected = ("DiskStore", [[1], []], [[1], []], [(True, [0, 1, -2]), (True, [])], [])
        self.gives(expected, run_disk, self.cluster, [[1], []], [])
        self.gives([], surviving, self.cluster, [[1], []], [])

    def test_the_store_goes_on_alone(self):
        history = list(HISTORY)
        store = run_disk(self.cluster, [[], []], history)
        history.clear()
        store.do(("recover", 0))
        self.gives(HISTORY + [("recover", 0)], store.history)
        self.assertEqual(history, [])
        other = run_disk(self.cluster, [[], []], HISTORY)
        self.gives(False, other.is_up, 0)

    def test_errors_in_their_order(self):
        for function in FUNCTIONS:
            for start, history, error in [
                ([[2], []], [("write", 7)], "InvalidLogs(replica=0)"),
                ([[], [1, 1]], HISTORY, "InvalidLogs(replica=1)"),
                ([[]], HISTORY, "InvalidLogs(replica=None)"),
                ([[0], []], HISTORY, "BadTrace(index=0)"),
                ([[], []], [("write", 2)], "BadTrace(index=0)"),
                ([[], []], HISTORY + [("crash", 0)], "BadTrace(index=6)"),
                ([[], []], HISTORY + [("save", 0, 1), ("crash", 0)], "BadTrace(index=6)"),
                ([[], []], HISTORY[:2] + HISTORY[:2], "BadTrace(index=2)"),
                ([[], []], [("write", 0), ("pull", 0, 1, 0), ("write", 0)], "BadTrace(index=1)"),
                ([[], []], [("write", 0), ("save", 0, 4), ("write", 1)], "BadTrace(index=1)"),
                ([[], []], [("recover", 1)], "BadTrace(index=0)"),
            ]:
                self.fails(error, function, self.cluster, start, history)

    def test_each_action_that_is_not_allowed(self):
        for wrong in [2, *NOWHERE]:
            for action in (("write", wrong), ("pull", wrong, 1, 0), ("pull", 0, wrong, 0), ("pull", 0, 1, wrong),
                           ("save", wrong, 1), ("crash", wrong), ("recover", wrong)):
                for function in FUNCTIONS:
                    self.fails("BadTrace(index=2)", function, self.cluster, [[], []], HISTORY[:2] + [action])
        for cells in (-1, 0, 4, 60):
            for function in FUNCTIONS:
                self.fails("BadTrace(index=1)", function, self.cluster, [[], []], [("write", 0), ("save", 0, cells)])

    def test_the_first_action_that_is_not_allowed(self):
        for chance in chances(60, "bad histories"):
            cluster = some_cluster(chance, 4)
            start = [[] for _ in range(cluster.net.count)]
            history, _ = some_history(chance, cluster, start, 15)
            disks = PlainDisks(cluster, start)
            at = chance.randint(0, len(history))
            for action in history[:at]:
                disks.take(action)
            wrong = chance.choice([one for one in every_disk_action(cluster) if one not in disks.possible()])
            for function in FUNCTIONS:
                self.fails(f"BadTrace(index={at})", function, cluster, start, history[:at] + [wrong] + history[at:])


class SurvivingTest(PromiseCase):
    def setUp(self):
        self.cluster = Cluster(Net.line(2), [0, 0])

    def survive(self, expected, *history):
        self.gives(expected, surviving, self.cluster, [[], []], list(history))

    def test_what_was_saved_survives_a_crash(self):
        self.survive([("write", 0), ("pull", 0, 1, 0)], *HISTORY)
        self.survive([("write", 0), ("pull", 0, 1, 0), ("write", 1)], *HISTORY[:-1])
        self.survive([], ("write", 0), ("save", 0, 2), ("crash", 0))
        self.survive([], ("write", 0), ("save", 0, 2), ("crash", 0), ("recover", 0))
        self.survive([("write", 0)], ("write", 0), ("save", 0, 3), ("crash", 0), ("recover", 0))

    def test_an_entry_that_is_written_again(self):
        self.survive([("write", 1), ("write", 0)],
                     ("write", 0), ("crash", 0), ("recover", 0), ("write", 1), ("write", 0))
        self.survive([("write", 0)],
                     ("write", 0), ("write", 1), ("crash", 0), ("recover", 0), ("write", 0))
        # Only the last one of three writes survives, if any.
        again = [("write", 0), ("save", 0, 1), ("crash", 0), ("recover", 0)]
        self.survive([], *again, *again, *again)
        self.survive([("write", 0)], *again, *again, ("write", 1), ("crash", 0), ("recover", 0), ("write", 0))

    def test_an_entry_that_is_pulled_again(self):
        begin = [("write", 0), ("save", 0, 3), ("pull", 0, 1, 0), ("crash", 1), ("recover", 1), ("write", 1)]
        self.survive([("write", 0), ("write", 1)], *begin)
        self.survive([("write", 0), ("write", 1), ("pull", 0, 1, 0)], *begin, ("pull", 0, 1, 0))

    def test_an_entry_that_comes_from_another_source_the_second_time(self):
        cluster = Cluster(Net.complete(3), [0])
        history = [("write", 0), ("save", 0, 3), ("pull", 0, 1, 0), ("save", 1, 3), ("pull", 0, 2, 0), ("crash", 2),
                   ("recover", 2), ("pull", 1, 2, 0)]
        expected = [("write", 0), ("pull", 0, 1, 0), ("pull", 1, 2, 0)]
        self.gives(expected, surviving, cluster, [[], [], []], history)

    def test_the_same_append_twice_is_told_at_its_later_place(self):
        self.gives([("write", 1), ("write", 0)], surviving, Cluster(Net.line(2), [0, 1]), [[], []],
                   [("write", 0), ("crash", 0), ("recover", 0), ("write", 1), ("write", 0)])

    def test_the_start_is_never_lost(self):
        for chance in chances(30, "start survives"):
            cluster = some_cluster(chance, 4)
            start = some_logs(chance, cluster)
            history, disks = some_history(chance, cluster, start, 25)
            for before, after in zip(start, disks.logs()):
                self.assertEqual(after[:len(before)], before)
            self.check(cluster, start, history, disks)

    def check(self, cluster, start, history, disks):
        """The surviving appends are those of point 31, and a run that leads to the current logs."""
        expected = naive_surviving(cluster, disks.logs(), history)
        self.gives(expected, surviving, cluster, start, history)
        self.assertEqual(naive_run(cluster, start, expected), disks.logs())
        store = run_disk(cluster, start, history)
        self.assertEqual([store.logs, store.saved], [disks.logs(), disks.saved()])

    def test_against_the_words_of_the_document(self):
        for chance in chances(120, "surviving"):
            cluster = some_cluster(chance, 4)
            start = [[] for _ in range(cluster.net.count)]
            if chance.random() < 0.3:
                start = cut_logs(chance, some_run(chance, cluster, start, 10)[1])
            history, disks = some_history(chance, cluster, start, 40)
            self.check(cluster, start, history, disks)

    def test_the_saved_log_is_the_beginning_of_every_later_current_log(self):
        for chance in chances(60, "saved logs"):
            cluster = some_cluster(chance, 4)
            start = [[] for _ in range(cluster.net.count)]
            history, _ = some_history(chance, cluster, start, 40)
            store = DiskStore(cluster, start)
            earlier = []
            for action in history:
                earlier.append(store.saved)
                store.do(action)
                for saved in earlier:
                    for before, now in zip(saved, store.logs):
                        self.assertEqual(now[:len(before)], before)

    def test_all_disk_runs_of_small_clusters(self):
        worlds = [Cluster(Net.line(1), [0, 0]), Cluster(Net.line(2), [0]), Cluster(Net.line(2), [0, 1]),
                  Cluster(Net(2, [(0, 1)]), [0, 0])]
        for cluster in worlds:
            start = [[] for _ in range(cluster.net.count)]
            runs = all_disk_runs(cluster, start)
            for history, disks in runs:
                trace = surviving(cluster, start, history)
                self.assertEqual(trace, naive_surviving(cluster, disks.logs(), history))
                self.assertEqual(naive_run(cluster, start, trace), disks.logs())
            # Crashes lead to no logs that could not have come about without them, and saves hinder none.
            self.assertEqual({repr(disks.logs()) for _, disks in runs}, all_reached(cluster, start))

    def test_long_histories_of_the_largest_cluster(self):
        cluster = Cluster(Net.ring(24), [(7 * entry) % 24 for entry in range(60)])
        start = [[] for _ in range(24)]
        history = []
        store = DiskStore(cluster, start)
        while len(history) < 3990:
            for entry in range(60):
                if store.allows(("write", entry)):
                    history.append(("write", entry))
                    store.do(history[-1])
            for x in range(24):
                wanted = [("save", x, 5), ("save", x, 1), ("crash", (5 * x) % 24), ("recover", (5 * x + 5) % 24)]
                wanted += [("pull", x, (x + 1) % 24, entry) for entry in store.saved[x]]
                for action in wanted:
                    if store.allows(action) and len(history) < 4000:
                        history.append(action)
                        store.do(action)
        self.assertEqual(plain(run_disk(cluster, start, history)), plain(store))
        trace = surviving(cluster, start, history)
        self.assertEqual(trace, naive_surviving(cluster, store.logs, history))
        self.assertEqual(naive_run(cluster, start, trace), store.logs)


def all_disk_runs(cluster, start):
    """A shortest history to each state of a disk store, with the state, by a search through all disk runs."""
    first = PlainDisks(cluster, start)
    seen = {repr([first.memory, first.disks])}
    runs = [([], first)]
    for history, disks in runs:
        for action in disks.possible():
            later = disks.copy()
            later.take(action)
            state = repr([later.memory, later.disks])
            if state not in seen:
                seen.add(state)
                runs.append((history + [action], later))
    return runs


if __name__ == "__main__":
    unittest.main()
