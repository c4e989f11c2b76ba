"""Some of the rules of LANGUAGE.md, as far as a short look at the code can judge them."""

import ast
import pathlib
import unittest
import warnings

FOLDER = pathlib.Path(__file__).resolve().parent.parent / "pullstore"
BUILTINS = {
    "len", "range", "enumerate", "zip", "min", "max", "sum", "abs", "sorted", "reversed", "int", "str",
    "bool", "list", "tuple", "dict", "set", "isinstance", "ord", "repr", "any", "all", "divmod", "super",
    "ValueError", "property", "classmethod", "staticmethod",
}
LIBRARY = ("heapq", "math", "itertools", "collections")


def files():
    return sorted(path for path in FOLDER.rglob("*.py"))


def imported(tree):
    return [node for node in ast.walk(tree) if isinstance(node, (ast.Import, ast.ImportFrom))]


class LanguageTest(unittest.TestCase):
    def test_characters_lines_and_files(self):
        self.assertLessEqual(len(files()), 100)
        for path in files():
            text = path.read_bytes().decode("ascii")
            self.assertTrue(all(one == "\n" or " " <= one <= "~" for one in text), path)
            self.assertLessEqual(len(text.splitlines()), 399, path)
            self.assertLessEqual(max(map(len, text.splitlines()), default=0), 120, path)

    def test_python_itself_has_no_warning(self):
        for path in files():
            with warnings.catch_warnings():
                warnings.simplefilter("error")
                compile(path.read_text(), str(path), "exec")

    def test_functions_have_at_most_40_lines(self):
        for path in files():
            for node in ast.walk(ast.parse(path.read_text())):
                if isinstance(node, ast.FunctionDef):
                    self.assertLessEqual(node.end_lineno - node.lineno + 1, 40, (path, node.name))

    def test_imports_stand_at_the_top_and_name_the_file_that_defines_the_name(self):
        for path in files():
            tree = ast.parse(path.read_text())
            self.assertTrue(all(node in tree.body for node in imported(tree)), path)
            for node in imported(tree):
                self.assertIsInstance(node, ast.ImportFrom, path)
                if node.module in LIBRARY:
                    continue
                self.assertTrue(node.module.startswith("pullstore."), (path, node.module))
                source = FOLDER / (node.module.removeprefix("pullstore.").replace(".", "/") + ".py")
                defined = self.names_of(ast.parse(source.read_text()))
                for alias in node.names:
                    self.assertIn(alias.name, defined, path)

    def names_of(self, tree):
        found = set()
        for node in tree.body:
            if isinstance(node, (ast.FunctionDef, ast.ClassDef)):
                found.add(node.name)
            if isinstance(node, ast.Assign):
                found |= {target.id for target in node.targets}
        return found

    def test_no_file_imports_itself_through_others(self):
        needs = {}
        for path in files():
            modules = [node.module for node in imported(ast.parse(path.read_text()))]
            needs[f"pullstore.{path.stem}"] = [name for name in modules if name.startswith("pullstore.")]
        while needs:
            free = [name for name, others in needs.items() if not any(one in needs for one in others)]
            self.assertTrue(free, needs)
            for name in free:
                del needs[name]

    def test_names_are_imported_defined_or_allowed_builtins(self):
        for path in files():
            tree = ast.parse(path.read_text())
            known = BUILTINS | self.names_of(tree)
            for node in imported(tree):
                known |= {alias.name for alias in node.names}
            for node in ast.walk(tree):
                if isinstance(node, ast.Name) and isinstance(node.ctx, ast.Store):
                    known.add(node.id)
                if isinstance(node, ast.arg):
                    known.add(node.arg)
                if isinstance(node, (ast.MatchAs, ast.MatchStar)) and node.name:
                    known.add(node.name)
                if isinstance(node, ast.FunctionDef):
                    known.add(node.name)
            used = {node.id for node in ast.walk(tree) if isinstance(node, ast.Name)}
            self.assertLessEqual(used, known, path)

    def test_no_floats_and_no_forbidden_statements(self):
        wrong = (ast.Global, ast.AsyncFunctionDef, ast.Div, ast.Await)
        for path in files():
            for node in ast.walk(ast.parse(path.read_text())):
                self.assertNotIsInstance(node, wrong, path)
                if isinstance(node, ast.Constant):
                    self.assertNotIsInstance(node.value, (float, complex), path)


if __name__ == "__main__":
    unittest.main()
