"""The interface: where each name is defined, its arguments and its kind."""

import importlib
import inspect
import unittest

# For each module its functions with their parameters, as they are written in a head.
FUNCTIONS = {
    "paths": {
        "reach_within": "(net, starts, allowed)",
        "is_two_way": "(net)",
        "is_strong": "(net)",
        "is_tree": "(net)",
        "is_ring": "(net)",
        "is_complete": "(net)",
        "tree_path": "(net, first, last)",
        "tree_distance": "(net, first, last)",
        "tree_side": "(net, source, reader)",
    },
    "logs": {
        "check_logs": "(cluster, logs)",
        "empty_logs": "(cluster)",
        "holders_of": "(cluster, logs, entry)",
        "ahead_of": "(cluster, logs, replica, entry)",
        "unwritten": "(cluster, logs)",
        "is_full": "(cluster, logs)",
        "is_prefix": "(cluster, start, goal)",
        "missing_pairs": "(cluster, start, goal)",
        "restrict": "(cluster, logs, *kept)",
    },
    "run": {
        "offers": "(cluster, logs, source, reader, *, rule='first')",
        "allowed_actions": "(cluster, logs, *, rule='first')",
        "apply_action": "(cluster, logs, action, *, rule='first')",
        "replay": "(cluster, start, trace, *, rule='first')",
        "each_state": "(cluster, start, trace, *, rule='first')",
    },
    "causes": {
        "trace_causes": "(cluster, start, trace)",
        "trace_layers": "(cluster, start, trace)",
        "longest_chain": "(cluster, start, trace)",
        "reorder": "(cluster, start, trace, order)",
    },
    "settle": {
        "is_settled": "(cluster, logs)",
        "settle": "(cluster, logs)",
        "settled_logs": "(cluster, logs)",
        "pulls_left": "(cluster, logs)",
    },
    "carry": {
        "carries": "(cluster, goal, source, reader, entry)",
        "roots_of": "(cluster, start, goal, entry)",
        "carry_distances": "(cluster, start, goal, entry)",
        "carried_to": "(cluster, start, goal, entry)",
    },
    "audit": {
        "audit": "(cluster, start, goal)",
        "reachable": "(cluster, start, goal)",
        "plan": "(cluster, start, goal)",
        "fits": "(cluster, now, goal, action)",
        "fitting_actions": "(cluster, now, goal)",
    },
    "rounds": {
        "earliest_rounds": "(cluster, start, goal)",
        "round_schedule": "(cluster, start, goal)",
    },
    "join": {
        "join_logs": "(cluster, one, other)",
    },
    "treecheck": {
        "link_fault": "(cluster, logs, source, reader)",
        "tree_fault": "(cluster, logs)",
        "pair_fault": "(cluster, logs)",
    },
    "crossing": {
        "pair_codes": "(cluster, first, second)",
        "order_table": "(cluster, logs)",
        "logs_of_table": "(cluster, table)",
    },
    "infer": {
        "least_logs": "(cluster, replica, log)",
        "fewest_actions": "(cluster, replica, log)",
    },
    "finish": {
        "finish": "(cluster, logs)",
        "finished_logs": "(cluster, logs)",
    },
    "lasts": {
        "last_entries": "(cluster, logs)",
        "split_link": "(cluster, logs)",
        "two_lasts_fault": "(cluster, choices)",
        "tree_lasts_fault": "(cluster, choices)",
        "complete_lasts_fault": "(cluster, choices)",
        "logs_with_lasts": "(cluster, choices)",
        "each_lasts": "(cluster)",
        "count_lasts": "(cluster)",
    },
    "firsts": {
        "first_entries": "(cluster, logs)",
        "firsts_fault": "(cluster, choices)",
        "logs_with_firsts": "(cluster, choices)",
        "count_firsts": "(cluster)",
    },
    "readings": {
        "read_entry": "(cluster, logs, key_of, replica, key)",
        "split_key": "(cluster, logs, key_of, key)",
        "split_keys": "(cluster, logs, key_of)",
    },
    "device": {
        "frames": "(log)",
        "scan": "(cells)",
        "mend": "(cells)",
    },
    "survive": {
        "run_disk": "(cluster, start, history)",
        "surviving": "(cluster, start, history)",
    },
    "depths": {
        "depths_of": "(cluster, logs)",
        "depths_fault": "(cluster, depths)",
        "count_ring": "(cluster)",
        "each_depths": "(cluster)",
        "depth_run": "(cluster, depths)",
    },
    "ring": {
        "ring_logs": "(cluster, depths)",
        "ring_fault": "(cluster, logs)",
        "restore_log": "(cluster, logs, depths, replica)",
    },
    "owners": {
        "possible_homes": "(net, size, logs)",
        "no_home": "(net, size, logs)",
    },
    "links": {
        "needed_links": "(cluster, start, goal)",
        "lean_net": "(cluster, start, goal)",
        "helpful_links": "(cluster, start, goal)",
        "suspects": "(cluster, goal)",
    },
    "free": {
        "free_fault": "(cluster, logs)",
        "free_plan": "(cluster, goal)",
    },
    "report": {
        "report_text": "(cluster, logs, key_of, value_of)",
    },
}

# For each module its classes, with their bases and with what stands in their own bodies.
CLASSES = {
    "net": {
        "Net": ("object", {
            "__init__": "(self, count, links)",
            "sources": "(self, reader)",
            "readers": "(self, source)",
            "has_link": "(self, source, reader)",
            "with_link": "(self, source, reader)",
            "without_link": "(self, source, reader)",
        }),
    },
    "cluster": {
        "Cluster": ("object", {
            "__init__": "(self, net, homes)",
            "home_of": "(self, entry)",
            "entries_at": "(self, replica)",
            "on_net": "(self, net)",
        }),
    },
    "evidence": {
        "Evidence": ("object", {
            "__init__": "(self, kind)",
            "holds": "(self, cluster, start, goal)",
        }),
        "PrefixFault": ("Evidence", {
            "__init__": "(self, replica)",
            "holds": "(self, cluster, start, goal)",
        }),
        "Barrier": ("Evidence", {
            "__init__": "(self, entry, inside)",
            "bars": "(self, cluster, goal)",
            "holds": "(self, cluster, start, goal)",
        }),
        "Schedule": ("Evidence", {
            "__init__": "(self, trace)",
            "holds": "(self, cluster, start, goal)",
        }),
    },
    "guide": {
        "Guide": ("object", {
            "__init__": "(self, cluster, start, goal)",
            "next_action": "(self)",
            "take": "(self, action)",
            "undo": "(self)",
            "taken": "(self)",
        }),
    },
    "diskstore": {
        "DiskStore": ("object", {
            "__init__": "(self, cluster, start)",
            "is_up": "(self, replica)",
            "cells": "(self, replica)",
            "allows": "(self, action)",
            "do": "(self, action)",
            "history": "(self)",
            "fork": "(self)",
        }),
    },
    "desk": {
        "Desk": ("object", {
            "__init__": "(self, cluster, key_of, value_of)",
            "set_goal": "(self, logs)",
            "clear_goal": "(self)",
            "do": "(self, action)",
            "attempt": "(self, *actions)",
            "preview": "(self, *actions)",
            "undo": "(self)",
            "redo": "(self)",
            "taken": "(self)",
            "advance": "(self, count=1)",
            "sync": "(self)",
            "why": "(self, goal)",
            "read": "(self, replica, key)",
            "splits": "(self)",
            "report": "(self)",
            "fork": "(self)",
        }),
    },
}


def module(name):
    return importlib.import_module(f"pullstore.{name}")


def head_of(function):
    """The parameters of the function, without annotations."""
    found = inspect.signature(function)
    bare = [one.replace(annotation=inspect.Parameter.empty) for one in found.parameters.values()]
    return str(found.replace(parameters=bare, return_annotation=inspect.Signature.empty))


class InterfaceTest(unittest.TestCase):
    def test_each_function_is_defined_in_its_file_with_its_parameters(self):
        for name, functions in FUNCTIONS.items():
            for function, head in functions.items():
                with self.subTest(f"{name}.{function}"):
                    listed = getattr(module(name), function)
                    self.assertTrue(inspect.isfunction(listed))
                    self.assertEqual(listed.__module__, f"pullstore.{name}")
                    self.assertEqual(head_of(listed), head)

    def test_each_class_is_defined_in_its_file_with_its_own_methods(self):
        for name, classes in CLASSES.items():
            for word, (base, methods) in classes.items():
                listed = getattr(module(name), word)
                with self.subTest(f"{name}.{word}"):
                    self.assertTrue(inspect.isclass(listed))
                    self.assertEqual(listed.__module__, f"pullstore.{name}")
                    self.assertIn(base, [one.__name__ for one in listed.__mro__[1:]])
                for method, head in methods.items():
                    with self.subTest(f"{name}.{word}.{method}"):
                        self.assertIn(method, vars(listed))
                        self.assertEqual(head_of(vars(listed)[method]), head)

    def test_the_class_methods_of_net(self):
        net = module("net").Net
        heads = {"both_ways": "(count, pairs)", "line": "(count)", "star": "(count)",
                 "complete": "(count)", "ring": "(count)"}
        for name, head in heads.items():
            with self.subTest(name):
                self.assertIsInstance(vars(net)[name], classmethod)
                self.assertEqual(head_of(getattr(net, name)), head)

    def test_the_properties(self):
        self.assertIsInstance(vars(module("net").Net)["links"], property)
        self.assertIsInstance(vars(module("cluster").Cluster)["homes"], property)
        for name in ("logs", "left"):
            self.assertIsInstance(vars(module("guide").Guide)[name], property)
        for name in ("logs", "saved"):
            self.assertIsInstance(vars(module("diskstore").DiskStore)[name], property)
        for name in ("logs", "goal", "left"):
            self.assertIsInstance(vars(module("desk").Desk)[name], property)

    def test_the_class_values(self):
        self.assertEqual(vars(module("net").Net)["MOST"], 24)
        self.assertEqual(vars(module("cluster").Cluster)["MOST"], 60)

    def test_the_rules(self):
        self.assertEqual([module("run").FIRST, module("run").ANY], ["first", "any"])

    def test_the_generators(self):
        self.assertTrue(inspect.isgeneratorfunction(module("run").each_state))
        self.assertTrue(inspect.isgeneratorfunction(module("lasts").each_lasts))
        self.assertTrue(inspect.isgeneratorfunction(module("depths").each_depths))

    def test_the_rule_is_passed_by_keyword_only(self):
        run = module("run")
        cluster = module("cluster").Cluster(module("net").Net.line(2), [0])
        logs = [[], []]
        for call in (lambda: run.offers(cluster, logs, 0, 1, "first"),
                     lambda: run.allowed_actions(cluster, logs, "first"),
                     lambda: run.apply_action(cluster, logs, ("write", 0), "first"),
                     lambda: run.replay(cluster, logs, [], "first"),
                     lambda: run.each_state(cluster, logs, [], "first")):
            with self.assertRaises(TypeError):
                call()


if __name__ == "__main__":
    unittest.main()
