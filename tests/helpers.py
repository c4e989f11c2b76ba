"""What the tests share: the interface, the conventions of point 2, and small worlds to go through.

The oracles here and in the tests follow the words of the document and call nothing of the
program, so that the program is compared with the document and not with itself.
"""

import inspect
import itertools
import random
import unittest

from pullstore.cluster import Cluster
from pullstore.desk import Desk
from pullstore.diskstore import DiskStore
from pullstore.errors import NothingToRedo, StoreError, Unreachable
from pullstore.evidence import Barrier, Evidence, PrefixFault, Schedule
from pullstore.guide import Guide
from pullstore.net import Net

HUGE = 10 ** 30 - 1
# Integers that are never a replica or an entry, also not of the largest cluster.
NOWHERE = [-1, -2, 60, 61, HUGE, -HUGE]

# For each module its functions with their parameters, as they are written in a head.
FUNCTIONS = {
    "paths": {
        "reach_within": "(net, starts, allowed)",
        "is_two_way": "(net)",
        "is_strong": "(net)",
        "is_tree": "(net)",
        "is_ring": "(net)",
        "is_complete": "(net)",
        "tree_path": "(net, first, last)",
        "tree_distance": "(net, first, last)",
        "tree_side": "(net, source, reader)",
    },
    "logs": {
        "check_logs": "(cluster, logs)",
        "empty_logs": "(cluster)",
        "holders_of": "(cluster, logs, entry)",
        "ahead_of": "(cluster, logs, replica, entry)",
        "unwritten": "(cluster, logs)",
        "is_full": "(cluster, logs)",
        "is_prefix": "(cluster, start, goal)",
        "missing_pairs": "(cluster, start, goal)",
        "restrict": "(cluster, logs, *kept)",
    },
    "run": {
        "offers": "(cluster, logs, source, reader, *, rule='first')",
        "allowed_actions": "(cluster, logs, *, rule='first')",
        "apply_action": "(cluster, logs, action, *, rule='first')",
        "replay": "(cluster, start, trace, *, rule='first')",
        "each_state": "(cluster, start, trace, *, rule='first')",
    },
    "causes": {
        "trace_causes": "(cluster, start, trace)",
        "trace_layers": "(cluster, start, trace)",
        "longest_chain": "(cluster, start, trace)",
        "reorder": "(cluster, start, trace, order)",
    },
    "settle": {
        "is_settled": "(cluster, logs)",
        "settle": "(cluster, logs)",
        "settled_logs": "(cluster, logs)",
        "pulls_left": "(cluster, logs)",
    },
    "carry": {
        "carries": "(cluster, goal, source, reader, entry)",
        "roots_of": "(cluster, start, goal, entry)",
        "carry_distances": "(cluster, start, goal, entry)",
        "carried_to": "(cluster, start, goal, entry)",
    },
    "audit": {
        "audit": "(cluster, start, goal)",
        "reachable": "(cluster, start, goal)",
        "plan": "(cluster, start, goal)",
        "fits": "(cluster, now, goal, action)",
        "fitting_actions": "(cluster, now, goal)",
    },
    "rounds": {
        "earliest_rounds": "(cluster, start, goal)",
        "round_schedule": "(cluster, start, goal)",
    },
    "join": {
        "join_logs": "(cluster, one, other)",
    },
    "treecheck": {
        "link_fault": "(cluster, logs, source, reader)",
        "tree_fault": "(cluster, logs)",
        "pair_fault": "(cluster, logs)",
    },
    "crossing": {
        "pair_codes": "(cluster, first, second)",
        "order_table": "(cluster, logs)",
        "logs_of_table": "(cluster, table)",
    },
    "infer": {
        "least_logs": "(cluster, replica, log)",
        "fewest_actions": "(cluster, replica, log)",
    },
    "finish": {
        "finish": "(cluster, logs)",
        "finished_logs": "(cluster, logs)",
    },
    "lasts": {
        "last_entries": "(cluster, logs)",
        "split_link": "(cluster, logs)",
        "two_lasts_fault": "(cluster, choices)",
        "tree_lasts_fault": "(cluster, choices)",
        "complete_lasts_fault": "(cluster, choices)",
        "logs_with_lasts": "(cluster, choices)",
        "each_lasts": "(cluster)",
        "count_lasts": "(cluster)",
    },
    "firsts": {
        "first_entries": "(cluster, logs)",
        "firsts_fault": "(cluster, choices)",
        "logs_with_firsts": "(cluster, choices)",
        "count_firsts": "(cluster)",
    },
    "readings": {
        "read_entry": "(cluster, logs, key_of, replica, key)",
        "split_key": "(cluster, logs, key_of, key)",
        "split_keys": "(cluster, logs, key_of)",
    },
    "device": {
        "frames": "(log)",
        "scan": "(cells)",
        "mend": "(cells)",
    },
    "survive": {
        "run_disk": "(cluster, start, history)",
        "surviving": "(cluster, start, history)",
    },
    "depths": {
        "depths_of": "(cluster, logs)",
        "depths_fault": "(cluster, depths)",
        "count_ring": "(cluster)",
        "each_depths": "(cluster)",
        "depth_run": "(cluster, depths)",
    },
    "ring": {
        "ring_logs": "(cluster, depths)",
        "ring_fault": "(cluster, logs)",
        "restore_log": "(cluster, logs, depths, replica)",
    },
    "owners": {
        "possible_homes": "(net, size, logs)",
        "no_home": "(net, size, logs)",
    },
    "links": {
        "needed_links": "(cluster, start, goal)",
        "lean_net": "(cluster, start, goal)",
        "helpful_links": "(cluster, start, goal)",
        "suspects": "(cluster, goal)",
    },
    "free": {
        "free_fault": "(cluster, logs)",
        "free_plan": "(cluster, goal)",
    },
    "report": {
        "report_text": "(cluster, logs, key_of, value_of)",
    },
}

# For each module its classes, with their bases and with what stands in their own bodies.
CLASSES = {
    "net": {
        "Net": ("object", {
            "__init__": "(self, count, links)",
            "sources": "(self, reader)",
            "readers": "(self, source)",
            "has_link": "(self, source, reader)",
            "with_link": "(self, source, reader)",
            "without_link": "(self, source, reader)",
        }),
    },
    "cluster": {
        "Cluster": ("object", {
            "__init__": "(self, net, homes)",
            "home_of": "(self, entry)",
            "entries_at": "(self, replica)",
            "on_net": "(self, net)",
        }),
    },
    "evidence": {
        "Evidence": ("object", {
            "__init__": "(self, kind)",
            "holds": "(self, cluster, start, goal)",
        }),
        "PrefixFault": ("Evidence", {
            "__init__": "(self, replica)",
            "holds": "(self, cluster, start, goal)",
        }),
        "Barrier": ("Evidence", {
            "__init__": "(self, entry, inside)",
            "bars": "(self, cluster, goal)",
            "holds": "(self, cluster, start, goal)",
        }),
        "Schedule": ("Evidence", {
            "__init__": "(self, trace)",
            "holds": "(self, cluster, start, goal)",
        }),
    },
    "guide": {
        "Guide": ("object", {
            "__init__": "(self, cluster, start, goal)",
            "next_action": "(self)",
            "take": "(self, action)",
            "undo": "(self)",
            "taken": "(self)",
        }),
    },
    "diskstore": {
        "DiskStore": ("object", {
            "__init__": "(self, cluster, start)",
            "is_up": "(self, replica)",
            "cells": "(self, replica)",
            "allows": "(self, action)",
            "do": "(self, action)",
            "history": "(self)",
            "fork": "(self)",
        }),
    },
    "desk": {
        "Desk": ("object", {
            "__init__": "(self, cluster, key_of, value_of)",
            "set_goal": "(self, logs)",
            "clear_goal": "(self)",
            "do": "(self, action)",
            "attempt": "(self, *actions)",
            "preview": "(self, *actions)",
            "undo": "(self)",
            "redo": "(self)",
            "taken": "(self)",
            "advance": "(self, count=1)",
            "sync": "(self)",
            "why": "(self, goal)",
            "read": "(self, replica, key)",
            "splits": "(self)",
            "report": "(self)",
            "fork": "(self)",
        }),
    },
}

ATTRIBUTES = ("kind", "replica", "entry", "inside", "trace")


class Raised:
    """An error, written as the document writes it: InvalidNet(link=(1, 2))."""

    def __init__(self, error):
        self.worths = list(vars(error).values())
        told = ", ".join(f"{name}={plain(worth)!r}" for name, worth in vars(error).items())
        self.text = f"{error.__class__.__name__}({told})"


def unreachable(evidence):
    """The error that tells this evidence, written out."""
    return Raised(Unreachable(evidence)).text


def plain(value):
    """A copy of the value in which objects are written out."""
    if isinstance(value, Raised):
        return value.text
    if isinstance(value, Net):
        return ("Net", value.count, value.links)
    if isinstance(value, Cluster):
        return ("Cluster", plain(value.net), value.size, value.homes)
    if isinstance(value, Guide):
        return ("Guide", value.logs, value.left, value.next_action(), value.taken())
    if isinstance(value, DiskStore):
        disks = [(value.is_up(x), value.cells(x)) for x in range(len(value.logs))]
        return ("DiskStore", value.logs, value.saved, disks, value.history())
    if isinstance(value, Desk):
        return ("Desk", value.logs, value.goal, value.left, value.taken(), undone_by(value), value.report())
    if isinstance(value, list):
        return [plain(item) for item in value]
    if isinstance(value, tuple):
        return tuple(plain(item) for item in value)
    if isinstance(value, dict):
        return {key: plain(worth) for key, worth in value.items()}
    if isinstance(value, Evidence):
        return (value.__class__.__name__, *kept_by(value))
    return value


def undone_by(desk):
    """The list of undone actions: what a fork can redo, backwards."""
    other = desk.fork()
    found = []
    while True:
        try:
            found.append(other.redo())
        except NothingToRedo:
            return found[::-1]


def kept_by(evidence):
    """The attributes of the evidence with their names."""
    return [(name, plain(getattr(evidence, name))) for name in ATTRIBUTES if hasattr(evidence, name)]


def lists_in(value):
    """Every list and dict in the value, as often as it stands there."""
    if isinstance(value, Raised):
        return lists_in(value.worths)[1:]
    if isinstance(value, Evidence):
        return lists_in([getattr(value, name) for name, _ in kept_by(value)])[1:]
    found = []
    if isinstance(value, (list, dict)):
        found.append(value)
    if isinstance(value, (list, tuple)):
        for item in value:
            found.extend(lists_in(item))
    if isinstance(value, dict):
        for item in value.values():
            found.extend(lists_in(item))
    return found


def outcome(function, arguments, options):
    """The answer or the error; of a generator its items and then the error, if there is one."""
    try:
        answer = function(*arguments, **options)
        if not inspect.isgenerator(answer):
            return answer
    except StoreError as error:
        return Raised(error)
    items = []
    try:
        for item in answer:
            items.append(item)
    except StoreError as error:
        items.append(Raised(error))
    return items


class PromiseCase(unittest.TestCase):
    """A test case that checks the conventions of point 2 with each question."""

    maxDiff = None

    def ask(self, function, *arguments, **options):
        """The answer, with objects written out and an error as a string."""
        asked = [getattr(function, "__self__", None), arguments, options]
        before = plain(asked)
        first = outcome(function, arguments, options)
        answer = plain(first)
        self.assertEqual(repr(plain(asked)), repr(before), "the call changed something")
        found = lists_in(first)
        known = [id(one) for one in lists_in([arguments, options])]
        self.assertEqual(len(found), len(set(id(one) for one in found)), "a list stands twice")
        self.assertFalse([one for one in found if id(one) in known], "an argument came back")
        for one in found:
            one.clear()
        self.assertEqual(repr(plain(asked)), repr(before), "the answer is not new")
        second = outcome(function, arguments, options)
        self.assertEqual(repr(plain(second)), repr(answer), "another answer the second time")
        return answer

    def gives(self, expected, function, *arguments, **options):
        """Asks, and compares the answer. repr also tells True from 1 and lists from tuples."""
        self.assertEqual(repr(self.ask(function, *arguments, **options)), repr(expected))

    def fails(self, error, function, *arguments, **options):
        """Asks, and compares the error with one as InvalidNet(link=(1, 2))."""
        self.assertEqual(self.ask(function, *arguments, **options), error)


def all_nets(count):
    """Every net with so many replicas."""
    pairs = [(x, y) for x in range(count) for y in range(count) if x != y]
    for many in range(len(pairs) + 1):
        for links in itertools.combinations(pairs, many):
            yield Net(count, list(links))


def all_trees(count):
    """The lists of pairs of every tree with so many replicas, in every numbering."""
    if count == 1:
        yield []
        return
    pairs = list(itertools.combinations(range(count), 2))
    for chosen in itertools.combinations(pairs, count - 1):
        group = list(range(count))
        for x, y in chosen:
            group = [group[y] if one == group[x] else one for one in group]
        if len(set(group)) == 1:
            yield list(chosen)


# Nets that are no trees, although each has something of one.
NO_TREES = [
    Net(2, [(0, 1)]), Net(3, []), Net.ring(3), Net.complete(3), Net(3, [(0, 1), (1, 0), (1, 2)]),
    Net.both_ways(4, [(0, 1), (1, 2), (2, 0)]), Net(3, [(0, 1), (1, 2), (2, 0), (1, 0)]),
]


# Nets that are no rings, although each has something of one.
NO_RINGS = [
    Net(1, []), Net.ring(1), Net(2, []), Net(2, [(0, 1)]), Net.line(3), Net.complete(3), Net(3, [(1, 0), (2, 1), (0, 2)]),
    Net(3, [(0, 1), (1, 2)]), Net(3, [(0, 1), (1, 2), (2, 0), (1, 0)]), Net.both_ways(4, [(0, 1), (2, 3)]),
    Net(4, [(0, 2), (2, 1), (1, 3), (3, 0)]), Net(4, [(0, 1), (1, 2), (2, 0), (3, 0)]),
]


# Nets that are not strong.
NOT_STRONG = [
    Net(2, []), Net(2, [(0, 1)]), Net(2, [(1, 0)]), Net(3, [(0, 1), (1, 2)]), Net(3, [(0, 1), (1, 0), (1, 2)]),
    Net(3, [(0, 1), (1, 0), (2, 1)]), Net.both_ways(4, [(0, 1), (2, 3)]),
]


def naive_strong(net):
    """Whether every replica can be reached from every other one, as point 4 says."""
    everyone = list(range(net.count))
    return all(reached_from(net.links, [x]) == everyone for x in everyone)


def strong_worlds(sizes):
    """Clusters on all strong nets, with homes in ascending order: pairs of replicas and entries."""
    for count, size in sizes:
        for net in all_nets(count):
            if naive_strong(net):
                for homes in itertools.combinations_with_replacement(range(count), size):
                    yield Cluster(net, list(homes))


def every_choice(cluster):
    """All choices of the cluster."""
    for choices in itertools.product(range(len(cluster.homes)), repeat=cluster.net.count):
        yield list(choices)


def wrong_choices(count, size):
    """Lists that are no choices for so many replicas and entries, with the error that tells so."""
    fine = [size - 1] * count
    for choices in ([], fine[1:], fine + [0], fine + [HUGE], [size] * (count + 1)):
        yield choices, "InvalidChoices(replica=None)"
    for wrong in [size, -size - 1, *NOWHERE]:
        for replica in range(count):
            choices = list(fine)
            choices[replica] = wrong
            yield choices, f"InvalidChoices(replica={replica})"
            choices[-1] = -1
            yield choices, f"InvalidChoices(replica={replica})"


def tree_worlds(sizes):
    """Clusters on all trees, in every numbering, with every list of homes: pairs of replicas and entries."""
    for count, size in sizes:
        for pairs in all_trees(count):
            for homes in itertools.product(range(count), repeat=size):
                yield Cluster(Net.both_ways(count, pairs), list(homes))


def some_tree(chance, most, size):
    """A cluster of so many entries on a tree of at most so many replicas."""
    count = chance.randint(1, most)
    numbers = chance.sample(range(count), count)
    pairs = [(numbers[chance.randrange(x)], numbers[x]) for x in range(1, count)]
    return Cluster(Net.both_ways(count, pairs), [chance.randrange(count) for _ in range(size)])


def side_of(net, source, reader):
    """The replicas that are nearer to the source than to the reader, on a tree."""
    return reached_from([link for link in net.links if reader not in link], [source])


def path_of(net, first, last):
    """The path on a tree: at each step the neighbour on whose side the last one is."""
    path = [first]
    while path[-1] != last:
        here = path[-1]
        path.append(next(y for x, y in net.links if x == here and last in side_of(net, y, here)))
    return path


def reached_from(links, starts):
    """The replicas that are reached from the starts along the links, by repeating one step."""
    found = set(starts)
    while True:
        more = {reader for source, reader in links if source in found} - found
        if not more:
            return sorted(found)
        found |= more


def offered(logs, source, reader, rule):
    """The entries on offer at the link, as point 8 says."""
    news = [entry for entry in logs[source] if entry not in logs[reader]]
    return news if rule == "any" else news[:1]


def possible(cluster, logs, rule="first"):
    """All allowed actions, as point 8 says."""
    held = {entry for log in logs for entry in log}
    actions = [("write", entry) for entry in range(len(cluster.homes)) if entry not in held]
    for source, reader in cluster.net.links:
        for entry in offered(logs, source, reader, rule):
            actions.append(("pull", source, reader, entry))
    return actions


def after_action(cluster, logs, action):
    """The logs after an action that is allowed."""
    place = cluster.homes[action[1]] if action[0] == "write" else action[2]
    return [log + [action[-1]] if replica == place else list(log) for replica, log in enumerate(logs)]


def naive_run(cluster, start, trace):
    """The logs after the trace, or None if it is no run."""
    logs = start
    for action in trace:
        if action not in possible(cluster, logs):
            return None
        logs = after_action(cluster, logs, action)
    return logs


def every_action(cluster):
    """All writes and pulls with replicas and entries of the cluster, and just beside them."""
    entries = range(-1, cluster.size + 1)
    replicas = range(-1, cluster.net.count + 1)
    found = [("write", entry) for entry in entries]
    return found + [("pull", x, y, entry) for x in replicas for y in replicas for entry in entries]


def naive_carries(goal, source, reader, entry):
    """Point 12, word by word."""
    if entry not in goal[source] or entry not in goal[reader]:
        return False
    ahead = goal[source][:goal[source].index(entry)]
    return all(other in goal[reader][:goal[reader].index(entry)] for other in ahead)


def naive_roots(cluster, start, goal, entry):
    """The roots as point 13 says, word by word."""
    holders = [x for x, log in enumerate(start) if entry in log]
    home = cluster.homes[entry]
    return holders or [x for x in [home] if entry in goal[home]]


def naive_distances(cluster, start, goal, entry):
    """The carry distances, by going through all links again and again."""
    distances = [None] * cluster.net.count
    for root in naive_roots(cluster, start, goal, entry):
        distances[root] = 0
    for _ in range(cluster.net.count):
        for source, reader in cluster.net.links:
            if distances[source] is not None and naive_carries(goal, source, reader, entry):
                if distances[reader] is None or distances[reader] > distances[source] + 1:
                    distances[reader] = distances[source] + 1
    return distances


def begins(start, goal):
    """Whether the start is a prefix of the goal."""
    return all(log == goal[x][:len(log)] for x, log in enumerate(start))


def naive_plan(cluster, start, goal):
    """Point 15, word by word, for a goal that is reachable."""
    tuples = []
    for x, log in enumerate(goal):
        for entry in log[len(start[x]):]:
            distance = naive_distances(cluster, start, goal, entry)[x]
            tuples.append((log.index(entry), distance, x, entry))
    trace = []
    for _, distance, x, entry in sorted(tuples):
        if distance == 0:
            trace.append(("write", entry))
        else:
            distances = naive_distances(cluster, start, goal, entry)
            sources = [y for y, z in cluster.net.links if z == x and naive_carries(goal, y, x, entry)]
            trace.append(("pull", min(y for y in sources if distances[y] == distance - 1), x, entry))
    return trace


def naive_audit(cluster, start, goal):
    """Point 16, word by word."""
    for x, log in enumerate(start):
        if log != goal[x][:len(log)]:
            return PrefixFault(x)
    for entry in range(cluster.size):
        distances = naive_distances(cluster, start, goal, entry)
        if any(entry in log and distances[x] is None for x, log in enumerate(goal)):
            return Barrier(entry, [x for x, distance in enumerate(distances) if distance is not None])
    return Schedule(naive_plan(cluster, start, goal))


def naive_reachable(cluster, logs):
    """Whether the logs are reachable, as point 14 says: each entry is carried to all its holders."""
    for entry, home in enumerate(cluster.homes):
        holders = [x for x, log in enumerate(logs) if entry in log]
        links = [(x, y) for x, y in cluster.net.links if naive_carries(logs, x, y, entry)]
        roots = [home] if home in holders else []
        if reached_from(links, roots) != holders:
            return False
    return True


def reached_logs(cluster, start):
    """All logs that some run from the start leads to, by a search through all runs."""
    seen = {repr(start): start}
    waiting = [start]
    while waiting:
        logs = waiting.pop()
        for action in possible(cluster, logs):
            later = after_action(cluster, logs, action)
            if repr(later) not in seen:
                seen[repr(later)] = later
                waiting.append(later)
    return list(seen.values())


def all_reached(cluster, start):
    """The reprs of all logs that some run from the start leads to."""
    return {repr(logs) for logs in reached_logs(cluster, start)}


def full_logs(cluster):
    """All full logs that some run from the empty logs leads to."""
    reached = reached_logs(cluster, [[] for _ in range(cluster.net.count)])
    return [logs for logs in reached if all(len(log) == len(cluster.homes) for log in logs)]


def all_logs(cluster):
    """Every list of logs of the cluster."""
    entries = range(len(cluster.homes))
    one = [list(log) for many in range(len(entries) + 1) for log in itertools.permutations(entries, many)]
    for logs in itertools.product(one, repeat=cluster.net.count):
        yield [list(log) for log in logs]


def some_net(chance):
    """A net of a few replicas of a kind that the chance picks."""
    count = chance.randint(1, 5)
    made = [Net.line, Net.star, Net.complete, Net.ring]
    kind = chance.randrange(len(made) + 1)
    if kind < len(made):
        return made[kind](count)
    pairs = [(x, y) for x in range(count) for y in range(count) if x != y]
    return Net(count, [pair for pair in pairs if chance.random() < 0.5])


def some_cluster(chance, most=6):
    """A cluster of a few entries on such a net."""
    net = some_net(chance)
    return Cluster(net, [chance.randrange(net.count) for _ in range(chance.randint(0, most))])


def some_logs(chance, cluster):
    """Logs of the cluster, which need not be reachable."""
    logs = []
    for _ in range(cluster.net.count):
        log = list(range(len(cluster.homes)))
        chance.shuffle(log)
        logs.append(log[:chance.randint(0, len(log))])
    return logs


def some_run(chance, cluster, start, most, rule="first"):
    """A run of at most so many actions from the start, and the logs after it."""
    logs = [list(log) for log in start]
    trace = []
    while len(trace) < most:
        actions = possible(cluster, logs, rule)
        if not actions:
            break
        action = chance.choice(actions)
        trace.append(action)
        logs = after_action(cluster, logs, action)
    return trace, logs


def cut_logs(chance, logs):
    """A prefix of the logs."""
    return [log[:chance.randint(0, len(log))] for log in logs]


def chances(many, seed):
    """So many sources of chance, always the same ones."""
    return [random.Random(f"{seed} {number}") for number in range(many)]


class PlainDisks:
    """A disk store as points 29 and 30 describe it, word by word."""

    def __init__(self, cluster, start):
        self.cluster = cluster
        # The log in memory, or None while the replica is down.
        self.memory = [list(log) for log in start]
        self.disks = [naive_frames(log) for log in start]

    def copy(self):
        other = PlainDisks(self.cluster, [[] for _ in self.memory])
        other.memory = [None if log is None else list(log) for log in self.memory]
        other.disks = [list(cells) for cells in self.disks]
        return other

    def saved(self):
        return [naive_scan(cells) for cells in self.disks]

    def ups(self):
        return [log is not None for log in self.memory]

    def logs(self):
        return [saved if log is None else list(log) for log, saved in zip(self.memory, self.saved())]

    def possible(self):
        """All allowed actions."""
        up = [x for x, log in enumerate(self.memory) if log is not None]
        known = {entry for log in self.logs() for entry in log}
        saved = self.saved()
        found = [("write", entry) for entry, home in enumerate(self.cluster.homes) if home in up and entry not in known]
        for source, reader in self.cluster.net.links:
            if source in up and reader in up:
                news = [entry for entry in saved[source] if entry not in self.memory[reader]]
                found.extend(("pull", source, reader, entry) for entry in news[:1])
        for x in up:
            left = len(naive_frames(self.memory[x])) - len(self.disks[x])
            found.extend(("save", x, many) for many in range(1, left + 1))
        found.extend(("crash", x) for x in up)
        return found + [("recover", x) for x, log in enumerate(self.memory) if log is None]

    def take(self, action):
        """Takes an action that is allowed."""
        if action[0] == "write":
            self.memory[self.cluster.homes[action[1]]].append(action[1])
        elif action[0] == "pull":
            self.memory[action[2]].append(action[3])
        elif action[0] == "save":
            at = len(self.disks[action[1]])
            self.disks[action[1]] += naive_frames(self.memory[action[1]])[at:at + action[2]]
        elif action[0] == "crash":
            self.memory[action[1]] = None
        else:
            self.memory[action[1]] = self.saved()[action[1]]
            self.disks[action[1]] = self.disks[action[1]][:3 * len(self.memory[action[1]])]


def naive_frames(log):
    """The frames of the log, as point 29 says."""
    return [cell for k, entry in enumerate(log) for cell in (k, entry, -1 - entry)]


def naive_scan(cells):
    """The entries that a scan reads: as many as possible whose frames the disk begins with."""
    found = []
    for entry in cells[1::3]:
        if entry < 0 or naive_frames(found + [entry]) != cells[:3 * len(found) + 3]:
            break
        found.append(entry)
    return found


def every_disk_action(cluster):
    """All actions of disk stores with replicas and entries of the cluster, and just beside them."""
    replicas = range(-1, cluster.net.count + 1)
    found = every_action(cluster)
    found += [("save", x, cells) for x in replicas for cells in range(-1, 3 * cluster.size + 2)]
    return found + [(word, x) for word in ("crash", "recover") for x in replicas]


def some_history(chance, cluster, start, most):
    """A disk run of at most so many actions from the start, and the disk store after it."""
    disks = PlainDisks(cluster, start)
    history = []
    while len(history) < most:
        actions = disks.possible()
        kind = chance.choice(["write", "pull", "pull", "save", "save", "save", "crash", "recover"])
        action = chance.choice([one for one in actions if one[0] == kind] or actions)
        history.append(action)
        disks.take(action)
    return history, disks
