"""The interface: where each name is defined, its arguments and its kind."""

import importlib
import inspect
import unittest

from helpers import CLASSES, FUNCTIONS


def module(name):
    return importlib.import_module(f"pullstore.{name}")


def head_of(function):
    """The parameters of the function, without annotations."""
    found = inspect.signature(function)
    bare = [one.replace(annotation=inspect.Parameter.empty) for one in found.parameters.values()]
    return str(found.replace(parameters=bare, return_annotation=inspect.Signature.empty))


class InterfaceTest(unittest.TestCase):
    def test_each_function_is_defined_in_its_file_with_its_parameters(self):
        for name, functions in FUNCTIONS.items():
            for function, head in functions.items():
                with self.subTest(f"{name}.{function}"):
                    listed = getattr(module(name), function)
                    self.assertTrue(inspect.isfunction(listed))
                    self.assertEqual(listed.__module__, f"pullstore.{name}")
                    self.assertEqual(head_of(listed), head)

    def test_each_class_is_defined_in_its_file_with_its_own_methods(self):
        for name, classes in CLASSES.items():
            for word, (base, methods) in classes.items():
                listed = getattr(module(name), word)
                with self.subTest(f"{name}.{word}"):
                    self.assertTrue(inspect.isclass(listed))
                    self.assertEqual(listed.__module__, f"pullstore.{name}")
                    self.assertIn(base, [one.__name__ for one in listed.__mro__[1:]])
                for method, head in methods.items():
                    with self.subTest(f"{name}.{word}.{method}"):
                        self.assertIn(method, vars(listed))
                        self.assertEqual(head_of(vars(listed)[method]), head)

    def test_the_class_methods_of_net(self):
        net = module("net").Net
        heads = {"both_ways": "(count, pairs)", "line": "(count)", "star": "(count)",
                 "complete": "(count)", "ring": "(count)"}
        for name, head in heads.items():
            with self.subTest(name):
                self.assertIsInstance(vars(net)[name], classmethod)
                self.assertEqual(head_of(getattr(net, name)), head)

    def test_the_properties(self):
        self.assertIsInstance(vars(module("net").Net)["links"], property)
        self.assertIsInstance(vars(module("cluster").Cluster)["homes"], property)
        for name in ("logs", "left"):
            self.assertIsInstance(vars(module("guide").Guide)[name], property)
        for name in ("logs", "saved"):
            self.assertIsInstance(vars(module("diskstore").DiskStore)[name], property)
        for name in ("logs", "goal", "left"):
            self.assertIsInstance(vars(module("desk").Desk)[name], property)

    def test_the_class_values(self):
        self.assertEqual(vars(module("net").Net)["MOST"], 24)
        self.assertEqual(vars(module("cluster").Cluster)["MOST"], 60)

    def test_the_rules(self):
        self.assertEqual([module("run").FIRST, module("run").ANY], ["first", "any"])

    def test_the_generators(self):
        self.assertTrue(inspect.isgeneratorfunction(module("run").each_state))
        self.assertTrue(inspect.isgeneratorfunction(module("lasts").each_lasts))
        self.assertTrue(inspect.isgeneratorfunction(module("depths").each_depths))

    def test_the_rule_is_passed_by_keyword_only(self):
        run = module("run")
        cluster = module("cluster").Cluster(module("net").Net.line(2), [0])
        logs = [[], []]
        for call in (lambda: run.offers(cluster, logs, 0, 1, "first"),
                     lambda: run.allowed_actions(cluster, logs, "first"),
                     lambda: run.apply_action(cluster, logs, ("write", 0), "first"),
                     lambda: run.replay(cluster, logs, [], "first"),
                     lambda: run.each_state(cluster, logs, [], "first")):
            with self.assertRaises(TypeError):
                call()


if __name__ == "__main__":
    unittest.main()
