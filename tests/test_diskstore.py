"""Disk stores: point 30, and the heading pullstore/diskstore.py."""

import unittest

from helpers import (
    HUGE, NOWHERE, PlainDisks, PromiseCase, chances, every_disk_action, naive_frames, plain, some_cluster, some_history,
    some_logs,
)
from pullstore.cluster import Cluster
from pullstore.diskstore import DiskStore
from pullstore.errors import NotAllowed
from pullstore.net import Net


class DiskStoreTest(PromiseCase):
    def setUp(self):
        self.cluster = Cluster(Net.line(3), [0, 0, 2])
        self.store = DiskStore(self.cluster, [[], [], []])

    def begin(self, net, homes, start, *actions):
        self.cluster = Cluster(net, homes)
        self.store = DiskStore(self.cluster, start)
        self.take(*actions)

    def take(self, *actions):
        for action in actions:
            self.gives(True, self.store.allows, action)
            before = self.store.history()
            self.assertIsNone(self.store.do(action))
            self.assertEqual(self.store.history(), before + [action])

    def refuse(self, *actions):
        for action in actions:
            before = plain(self.store)
            self.gives(False, self.store.allows, action)
            self.fails(f"NotAllowed(action={action!r})", self.store.do, action)
            self.assertEqual(plain(self.store), before)

    def check(self, logs, saved):
        self.gives(logs, lambda: self.store.logs)
        self.gives(saved, lambda: self.store.saved)

    def check_all(self, disks):
        """Compares everything with disks that follow the words of the document."""
        self.check(disks.logs(), disks.saved())
        for x, cells in enumerate(disks.disks):
            self.gives(cells, self.store.cells, x)
            self.gives(disks.ups()[x], self.store.is_up, x)


class BeginTest(DiskStoreTest):
    def test_empty_logs(self):
        self.check([[], [], []], [[], [], []])
        self.gives([], self.store.history)
        for x in range(3):
            self.gives([], self.store.cells, x)
            self.gives(True, self.store.is_up, x)

    def test_logs_that_are_not_empty_are_on_the_disks(self):
        self.begin(Net.line(3), [0, 0, 2], [[1, 0], [], [0]])
        self.check([[1, 0], [], [0]], [[1, 0], [], [0]])
        self.gives([0, 1, -2, 1, 0, -1], self.store.cells, 0)
        self.gives([], self.store.cells, 1)
        self.gives([0, 0, -1], self.store.cells, 2)
        self.gives([], self.store.history)
        self.refuse(("write", 0), ("write", 1), ("save", 0, 1), ("save", 1, 1), ("recover", 0))
        self.take(("pull", 0, 1, 1), ("write", 2), ("crash", 0), ("crash", 1))
        self.check([[1, 0], [], [0, 2]], [[1, 0], [], [0]])

    def test_invalid_logs(self):
        self.fails("InvalidLogs(replica=1)", DiskStore, self.cluster, [[], [3], []])
        self.fails("InvalidLogs(replica=0)", DiskStore, self.cluster, [[0, 0], [3], []])
        self.fails("InvalidLogs(replica=2)", DiskStore, self.cluster, [[0], [], [-1]])
        self.fails("InvalidLogs(replica=None)", DiskStore, self.cluster, [[], []])
        expected = ("DiskStore", [[0], [], []], [[0], [], []], [(True, [0, 0, -1]), (True, []), (True, [])], [])
        self.gives(expected, DiskStore, self.cluster, [[0], [], []])

    def test_unknown_replicas(self):
        for replica in [3, *NOWHERE]:
            self.fails(f"UnknownReplica(replica={replica})", self.store.is_up, replica)
            self.fails(f"UnknownReplica(replica={replica})", self.store.cells, replica)

    def test_logs_and_saved_cannot_be_assigned(self):
        for name in ("logs", "saved"):
            with self.assertRaises(AttributeError):
                setattr(self.store, name, [[0], [], []])
        self.check([[], [], []], [[], [], []])

    def test_what_was_passed_may_change_later(self):
        start = [[0], [], []]
        homes = [0, 0, 2]
        cluster = Cluster(Net.line(3), homes)
        self.store = DiskStore(cluster, start)
        start[0].append(1)
        start.pop()
        homes[1] = 2
        cluster.size = 0
        cluster.net = Net(1, [])
        self.check([[0], [], []], [[0], [], []])
        self.take(("write", 1), ("save", 0, 3), ("pull", 0, 1, 0), ("write", 2))
        self.check([[0, 1], [0], [2]], [[0, 1], [], []])

    def test_what_was_returned_may_change_later(self):
        self.take(("write", 0), ("save", 0, 3))
        for _ in range(2):
            for answer in (self.store.logs, self.store.saved):
                answer[0].append(1)
                answer.clear()
            self.store.cells(0).clear()
            self.store.history().clear()
            self.check([[0], [], []], [[0], [], []])
            self.gives([0, 0, -1], self.store.cells, 0)
            self.gives([("write", 0), ("save", 0, 3)], self.store.history)


class WriteTest(DiskStoreTest):
    def test_a_write_is_in_memory_only(self):
        self.take(("write", 1), ("write", 2))
        self.check([[1], [], [2]], [[], [], []])
        self.gives([], self.store.cells, 0)

    def test_the_home_must_be_up(self):
        self.take(("crash", 0))
        self.refuse(("write", 0), ("write", 1))
        self.take(("write", 2), ("recover", 0), ("write", 0))

    def test_an_entry_in_a_current_log_is_not_written(self):
        self.take(("write", 0))
        self.refuse(("write", 0))
        self.take(("save", 0, 3), ("pull", 0, 1, 0), ("crash", 0))
        # Also in the current log of a replica that is down, which is its saved log.
        self.refuse(("write", 0))
        self.take(("recover", 0))
        self.refuse(("write", 0))

    def test_the_saved_log_of_a_replica_that_is_down_counts(self):
        self.begin(Net.line(2), [0, 0], [[], [0]])
        self.refuse(("write", 0))
        self.take(("crash", 1))
        self.refuse(("write", 0))
        self.check([[], [0]], [[], [0]])

    def test_an_entry_that_was_lost_everywhere_is_written_again(self):
        self.take(("write", 0), ("crash", 0))
        self.check([[], [], []], [[], [], []])
        self.refuse(("write", 0))
        self.take(("recover", 0), ("write", 1), ("write", 0))
        self.check([[1, 0], [], []], [[], [], []])

    def test_what_was_lost_and_what_was_saved(self):
        self.take(("write", 0), ("save", 0, 3), ("pull", 0, 1, 0), ("write", 1), ("save", 0, 2), ("crash", 0),
                  ("recover", 0))
        self.refuse(("write", 0))
        self.take(("write", 1))
        self.check([[0, 1], [0], []], [[0], [], []])

    def test_an_entry_that_a_reader_lost_is_pulled_again(self):
        self.begin(Net.line(3), [0], [[], [], []], ("write", 0), ("save", 0, 3), ("pull", 0, 1, 0), ("save", 1, 3),
                   ("pull", 1, 2, 0), ("crash", 2), ("recover", 2))
        self.check([[0], [0], []], [[0], [0], []])
        self.take(("pull", 1, 2, 0))
        self.refuse(("write", 0))

    def test_entries_that_do_not_exist(self):
        for entry in [3, *NOWHERE]:
            self.refuse(("write", entry))


class PullTest(DiskStoreTest):
    def test_pulls_read_the_saved_log_of_the_source(self):
        self.take(("write", 0))
        self.refuse(("pull", 0, 1, 0))
        self.take(("save", 0, 2))
        self.refuse(("pull", 0, 1, 0))
        self.take(("save", 0, 1), ("pull", 0, 1, 0))
        self.check([[0], [0], []], [[0], [], []])
        # The reader has the entry in memory only, so that nobody pulls it from there.
        self.refuse(("pull", 1, 2, 0), ("pull", 0, 1, 0))
        self.take(("save", 1, 3), ("pull", 1, 2, 0))
        self.check([[0], [0], [0]], [[0], [0], []])

    def test_only_the_first_entry_that_the_reader_lacks(self):
        self.take(("write", 1), ("write", 0), ("save", 0, 6))
        self.refuse(("pull", 0, 1, 0), ("pull", 0, 1, 2))
        self.take(("pull", 0, 1, 1), ("pull", 0, 1, 0))
        self.refuse(("pull", 0, 1, 0), ("pull", 0, 1, 1))
        self.check([[1, 0], [1, 0], []], [[1, 0], [], []])

    def test_the_readers_log_in_memory_counts_not_its_disk(self):
        self.begin(Net.line(2), [0, 1], [[], []], ("write", 0), ("save", 0, 3), ("pull", 0, 1, 0), ("crash", 1))
        self.refuse(("pull", 0, 1, 0))
        self.take(("recover", 1), ("pull", 0, 1, 0))
        self.check([[0], [0]], [[0], []])

    def test_both_replicas_must_be_up(self):
        self.take(("write", 0), ("save", 0, 3), ("crash", 1))
        self.refuse(("pull", 0, 1, 0))
        self.take(("recover", 1), ("crash", 0))
        self.refuse(("pull", 0, 1, 0))
        self.take(("recover", 0), ("pull", 0, 1, 0))

    def test_only_along_links_that_exist(self):
        self.begin(Net(3, [(0, 1), (2, 0)]), [0], [[0], [], []])
        self.refuse(("pull", 0, 2, 0), ("pull", 1, 0, 0), ("pull", 0, 0, 0), ("pull", 2, 0, 0))
        for wrong in [3, *NOWHERE]:
            self.refuse(("pull", wrong, 1, 0), ("pull", 0, wrong, 0), ("pull", wrong, wrong, 0), ("pull", 0, 1, wrong))
        self.take(("pull", 0, 1, 0))


class SaveTest(DiskStoreTest):
    def test_the_next_cells_that_the_disk_does_not_have(self):
        self.take(("write", 1), ("write", 0), ("save", 0, 1))
        self.gives([0], self.store.cells, 0)
        self.take(("save", 0, 3))
        self.gives([0, 1, -2, 1], self.store.cells, 0)
        self.check([[1, 0], [], []], [[1], [], []])
        self.take(("save", 0, 2))
        self.gives([0, 1, -2, 1, 0, -1], self.store.cells, 0)
        self.check([[1, 0], [], []], [[1, 0], [], []])

    def test_a_save_that_ends_in_a_frame_reads_the_frames_before(self):
        for cells, saved in enumerate(([], [], [], [1], [1], [1], [1, 0])):
            self.begin(Net.line(3), [0, 0, 2], [[], [], []], ("write", 1), ("write", 0))
            self.take(*[("save", 0, cells)] * (cells > 0))
            self.check([[1, 0], [], []], [saved, [], []])
            self.gives([0, 1, -2, 1, 0, -1][:cells], self.store.cells, 0)

    def test_the_number_of_cells(self):
        self.refuse(("save", 0, 1), ("save", 0, 0))
        self.take(("write", 0), ("write", 1))
        self.refuse(("save", 0, 0), ("save", 0, -1), ("save", 0, -HUGE), ("save", 0, 7), ("save", 0, HUGE))
        self.take(("save", 0, 4))
        self.refuse(("save", 0, 3), ("save", 0, 0))
        self.take(("save", 0, 2))
        self.refuse(("save", 0, 1))
        self.take(("write", 2), ("save", 2, 3))
        self.refuse(("save", 2, 1), ("save", 1, 1))

    def test_a_replica_that_is_down_does_not_save(self):
        self.take(("write", 0), ("write", 1), ("save", 0, 3), ("crash", 0))
        self.refuse(("save", 0, 1), ("save", 0, 3))
        self.take(("recover", 0))
        # What was in memory only is lost and is not left to be saved.
        self.refuse(("save", 0, 1))

    def test_replicas_that_do_not_exist(self):
        self.take(("write", 2))
        for replica in [3, *NOWHERE]:
            self.refuse(("save", replica, 1))
        self.take(("save", 2, 1))


class CrashTest(DiskStoreTest):
    def test_the_log_in_memory_is_lost_and_the_disk_stays(self):
        self.take(("write", 0), ("write", 1), ("save", 0, 5), ("crash", 0))
        self.gives(False, self.store.is_up, 0)
        self.gives(True, self.store.is_up, 1)
        self.gives([0, 0, -1, 1, 1], self.store.cells, 0)
        self.check([[0], [], []], [[0], [], []])

    def test_recovering_mends_the_disk(self):
        self.take(("write", 0), ("write", 1), ("save", 0, 5), ("crash", 0), ("recover", 0))
        self.gives(True, self.store.is_up, 0)
        self.gives([0, 0, -1], self.store.cells, 0)
        self.check([[0], [], []], [[0], [], []])
        self.take(("write", 1), ("save", 0, 3))
        self.gives([0, 0, -1, 1, 1, -2], self.store.cells, 0)

    def test_who_is_down_does_not_crash_and_who_is_up_does_not_recover(self):
        self.refuse(("recover", 0), ("recover", 1))
        self.take(("crash", 0))
        self.refuse(("crash", 0), ("recover", 1))
        self.take(("recover", 0))
        self.refuse(("recover", 0))
        self.take(("crash", 0), ("crash", 1), ("crash", 2), ("recover", 1))

    def test_replicas_that_do_not_exist(self):
        self.take(("crash", 2))
        for replica in [3, *NOWHERE]:
            self.refuse(("crash", replica), ("recover", replica))
        self.take(("recover", 2))

    def test_words_that_are_no_actions(self):
        self.refuse(("halt", 0), ("saved", 0, 1), ("", 0))


class ForkTest(DiskStoreTest):
    def test_the_same_state_and_history(self):
        self.take(("write", 0), ("write", 1), ("save", 0, 4), ("pull", 0, 1, 0), ("crash", 0), ("write", 2))
        expected = plain(self.store)
        self.gives(expected, self.store.fork)
        self.assertEqual(expected[1], [[0], [0], [2]])
        self.assertEqual(expected[2], [[0], [], []])
        self.assertEqual(expected[3], [(False, [0, 0, -1, 1]), (True, []), (True, [])])
        self.assertEqual(len(expected[4]), 6)

    def test_no_effect_on_each_other(self):
        self.take(("write", 0), ("write", 1), ("save", 0, 4), ("crash", 1))
        before = plain(self.store)
        other = self.store.fork()
        further = other.fork()
        for action in (("recover", 1), ("save", 0, 1), ("pull", 0, 1, 0), ("write", 2), ("crash", 0)):
            other.do(action)
        self.assertEqual(plain(self.store), before)
        self.assertEqual(plain(further), before)
        changed = plain(other)
        self.take(("crash", 0), ("recover", 0), ("write", 1), ("save", 0, 3))
        self.assertEqual(plain(other), changed)
        self.assertEqual(plain(further), before)
        self.assertEqual(other.logs, [[0], [0], [2]])
        self.assertEqual(self.store.logs, [[0, 1], [], []])

    def test_a_fork_of_a_store_with_a_start(self):
        self.begin(Net.line(3), [0, 0, 2], [[1], [1], []], ("crash", 1))
        self.gives(plain(self.store), self.store.fork)
        self.store = self.store.fork()
        self.take(("recover", 1), ("write", 0), ("save", 0, 3), ("pull", 0, 1, 0))
        self.check([[1, 0], [1, 0], []], [[1, 0], [1], []])


class WordsTest(DiskStoreTest):
    def test_against_the_words_of_the_document(self):
        for chance in chances(40, "disk stores"):
            cluster = some_cluster(chance, 3)
            start = [[] for _ in range(cluster.net.count)]
            if chance.random() < 0.3:
                start = some_logs(chance, cluster)
            history, _ = some_history(chance, cluster, start, 25)
            disks = PlainDisks(cluster, start)
            self.begin(cluster.net, cluster.homes, start)
            for action in history:
                possible = disks.possible()
                for other in every_disk_action(cluster):
                    self.assertEqual(self.store.allows(other), other in possible)
                self.refuse(chance.choice([one for one in every_disk_action(cluster) if one not in possible]))
                self.take(action)
                disks.take(action)
                self.check_all(disks)
            self.gives(history, self.store.history)

    def test_a_disk_has_the_first_cells_of_the_frames_while_up(self):
        for chance in chances(30, "first cells"):
            cluster = some_cluster(chance, 4)
            history, _ = some_history(chance, cluster, [[] for _ in range(cluster.net.count)], 40)
            store = DiskStore(cluster, [[] for _ in range(cluster.net.count)])
            for action in history:
                store.do(action)
                for x, log in enumerate(store.logs):
                    if store.is_up(x):
                        self.assertEqual(naive_frames(log)[:len(store.cells(x))], store.cells(x))
                    else:
                        self.assertEqual(log, store.saved[x])

    def test_the_largest_cluster(self):
        cluster = Cluster(Net.star(24), [entry % 24 for entry in range(60)])
        store = DiskStore(cluster, [[] for _ in range(24)])
        for entry in range(60):
            store.do(("write", entry))
        for x in range(1, 24):
            store.do(("save", x, 3 * len(cluster.entries_at(x))))
            for entry in cluster.entries_at(x):
                store.do(("pull", x, 0, entry))
        self.assertEqual(len(store.logs[0]), 60)
        store.do(("save", 0, 179))
        with self.assertRaises(NotAllowed):
            store.do(("save", 0, 2))
        self.assertEqual(len(store.saved[0]), 59)
        store.do(("crash", 0))
        store.do(("recover", 0))
        self.assertEqual(len(store.cells(0)), 177)


if __name__ == "__main__":
    unittest.main()
