"""The examples that the interface gives for the modules that are there."""

from helpers import PromiseCase
from pullstore.audit import audit, plan
from pullstore.cluster import Cluster
from pullstore.crossing import logs_of_table, order_table
from pullstore.depths import count_ring, each_depths
from pullstore.desk import Desk
from pullstore.device import frames, mend, scan
from pullstore.free import free_fault, free_plan
from pullstore.lasts import count_lasts, each_lasts, logs_with_lasts
from pullstore.logs import ahead_of, missing_pairs, restrict
from pullstore.net import Net
from pullstore.paths import reach_within, tree_path, tree_side
from pullstore.ring import ring_logs
from pullstore.rounds import earliest_rounds
from pullstore.run import allowed_actions, replay
from pullstore.settle import settle
from pullstore.survive import run_disk, surviving


class ExamplesTest(PromiseCase):
    def test_net(self):
        self.gives([(0, 1), (1, 0), (1, 2), (2, 1)], lambda: Net.line(3).links)
        self.gives([2], Net(3, [(2, 0), (0, 1), (2, 0)]).sources, 0)
        self.fails("InvalidNet(link=(1, 2))", Net, 2, [(0, 1), (1, 2), (3, 3)])

    def test_paths(self):
        net = Net.star(4)
        self.gives([3, 0, 1], tree_path, net, 3, 1)
        self.gives([0, 1, 3], tree_side, net, 0, 2)
        self.gives([1, 2], reach_within, Net.ring(4), [1, 3], [0, 1, 2])

    def test_logs(self):
        cluster = Cluster(Net.line(3), [0, 2, 2])
        logs = [[0, 1], [0, 1, 2], [1, 2]]
        self.gives([0, 1], ahead_of, cluster, logs, 1, 2)
        self.gives([(0, 1), (1, 2)], missing_pairs, cluster, [[0], [0, 1], [1, 2]], logs)
        self.gives([[0], [0, 2], [2]], restrict, cluster, logs, 2, 0)

    def test_settle(self):
        cluster = Cluster(Net.line(3), [0, 2])
        logs = replay(cluster, [[], [], []], [("write", 0), ("write", 1)])
        self.gives([("pull", 0, 1, 0), ("pull", 2, 1, 1)], allowed_actions, cluster, logs)
        expected = [("pull", 0, 1, 0), ("pull", 1, 2, 0), ("pull", 2, 1, 1), ("pull", 1, 0, 1)]
        self.gives(expected, settle, cluster, logs)

    def test_audit(self):
        expected = [("write", 0), ("write", 1), ("pull", 0, 1, 0), ("pull", 2, 1, 1),
                    ("pull", 1, 0, 1), ("pull", 1, 2, 0)]
        self.gives(expected, plan, Cluster(Net.line(3), [0, 2]), [[], [], []], [[0, 1], [0, 1], [1, 0]])
        cluster = Cluster(Net.line(2), [0, 0])
        found = audit(cluster, [[], []], [[0, 1], [1]])
        self.assertEqual([found.kind, found.entry, found.inside], ["barrier", 1, [0]])
        self.gives([(0, 1, 0)], found.bars, cluster, [[0, 1], [1]])
        self.gives(True, found.holds, cluster, [[], []], [[0, 1], [1]])

    def test_rounds(self):
        cluster = Cluster(Net.line(3), [0, 2])
        goal = [[0, 1], [0, 1], [1, 0]]
        self.gives([[1, 4], [2, 3], [1, 3]], earliest_rounds, cluster, [[], [], []], goal)

    def test_crossing(self):
        self.gives({(0, 1): (1, 2)}, order_table, Cluster(Net.line(3), [0, 2]), [[0, 1], [0, 1], [1, 0]])
        table = {(0, 1): "ahead", (0, 2): "behind", (1, 2): (0, 1)}
        error = "CyclicTable(replica=0, triple=(0, 1, 2))"
        self.fails(error, logs_of_table, Cluster(Net.line(2), [0, 0, 1]), table)

    def test_lasts(self):
        cluster = Cluster(Net.line(3), [0, 2])
        self.gives([[0, 0, 0], [1, 1, 1], [1, 0, 0], [1, 1, 0]], each_lasts, cluster)
        self.gives(4, count_lasts, cluster)
        cluster = Cluster(Net.complete(3), [0, 1, 2, 0])
        self.gives([[3, 0, 2, 1], [3, 1, 0, 2], [3, 2, 1, 0]], logs_with_lasts, cluster, [1, 2, 0])

    def test_device(self):
        cells = self.ask(frames, [4, 7])
        self.assertEqual(cells, [0, 4, -5, 1, 7, -8])
        self.gives(([4], 3), scan, cells[:5])
        self.gives([0, 4, -5], mend, cells[:5] + [0])

    def test_survive(self):
        cluster = Cluster(Net.line(2), [0, 0])
        history = [("write", 0), ("save", 0, 3), ("pull", 0, 1, 0), ("write", 1), ("save", 0, 2), ("crash", 0)]
        store = run_disk(cluster, [[], []], history)
        self.gives([[0], [0]], lambda: store.logs)
        self.gives([0, 0, -1, 1, 1], store.cells, 0)
        self.gives(False, store.is_up, 0)
        self.gives([("write", 0), ("pull", 0, 1, 0)], surviving, cluster, [[], []], history)

    def test_ring(self):
        cluster = Cluster(Net.ring(2), [0, 1])
        self.gives([[0, 0], [0, 1], [1, 0]], each_depths, cluster)
        self.gives(3, count_ring, cluster)
        self.gives([[0, 1], [1, 0]], ring_logs, cluster, [0, 0])
        self.gives([[1, 0], [1, 0]], ring_logs, cluster, [1, 0])

    def test_free(self):
        cluster = Cluster(Net.line(2), [0, 0])
        self.gives(None, free_fault, cluster, [[0, 1], [1]])
        self.gives([("write", 0), ("write", 1), ("pull", 0, 1, 1)], free_plan, cluster, [[0, 1], [1]])

    def test_desk(self):
        desk = Desk(Cluster(Net.line(2), [0, 1]), ["a", "a"], [5, -7])
        done = desk.attempt(("write", 0), ("write", 1), ("pull", 0, 1, 0), ("pull", 1, 0, 1))
        self.assertEqual(repr(done), "4")
        self.gives([[0, 1], [1, 0]], lambda: desk.logs)
        self.gives(-7, desk.read, 0, "a")
        self.gives(5, desk.read, 1, "a")
        self.gives([("a", 0, 1, 1, 0)], desk.splits)
