"""The form of the package's files: what ../shared/LANGUAGE.md says that can be told by looking at them."""

import ast
import importlib
import inspect
import pathlib
import unittest

FOLDER = pathlib.Path(__file__).resolve().parent.parent / "brushedsigns"
LIBRARY = {
    "heapq": {"heappush", "heappop", "heapify", "heapreplace", "heappushpop"},
    "math": {"gcd", "lcm", "isqrt", "comb", "perm", "factorial"},
    "itertools": {"product", "combinations", "permutations", "chain", "accumulate", "pairwise", "islice", "zip_longest"},
    "collections": {"defaultdict"},
}
INTERFACE = {
    "stocks": {"is_stock": ["thing"], "kind_of": ["stock", "name"], "sorts_of": ["stock", "name"]},
    "signs": {
        "is_sign": ["thing"], "size_of": ["sign"], "depth_of": ["sign"], "write_sign": ["sign"], "read_sign": ["text"]},
}


def files():
    return sorted(FOLDER.glob("*.py"))


class Form(unittest.TestCase):
    def test_the_folder_holds_files_of_the_program_alone(self):
        for path in FOLDER.iterdir():
            if path.name != "__pycache__":
                self.assertTrue(path.is_file() and path.suffix == ".py" and path.stem.replace("_", "a").isalnum(), path)
        self.assertTrue((FOLDER / "__init__.py").is_file())

    def test_lines_and_characters(self):
        for path in files():
            text = path.read_text(encoding="utf-8")
            lines = text.split("\n")
            self.assertLessEqual(len(lines), 399, path)
            self.assertLessEqual(max(map(len, lines)), 120, path)
            self.assertTrue(all(mark == "\n" or " " <= mark <= "~" for mark in text), path)

    def test_functions_have_at_most_forty_lines(self):
        for path in files():
            for node in ast.walk(ast.parse(path.read_text(encoding="utf-8"))):
                if isinstance(node, ast.FunctionDef):
                    self.assertLessEqual(node.end_lineno - node.lineno + 1, 40, f"{path}: {node.name}")

    def test_imports(self):
        for path in files():
            for node in ast.walk(ast.parse(path.read_text(encoding="utf-8"))):
                self.assertNotIsInstance(node, ast.Import, path)
                if isinstance(node, ast.ImportFrom):
                    self.check_import(path, node)

    def check_import(self, path, node):
        names = {alias.name for alias in node.names}
        self.assertEqual(node.level, 0, path)
        if node.module in LIBRARY:
            self.assertLessEqual(names, LIBRARY[node.module], path)
            return
        folder, _, name = node.module.partition(".")
        self.assertEqual(folder, "brushedsigns", path)
        tree = ast.parse((FOLDER / f"{name}.py").read_text(encoding="utf-8"))
        self.assertLessEqual(names, set(bound(tree)), path)


def bound(tree):
    """The names that a file defines itself."""
    for node in tree.body:
        if isinstance(node, (ast.FunctionDef, ast.ClassDef)):
            yield node.name
        elif isinstance(node, ast.Assign):
            yield node.targets[0].id


class Interface(unittest.TestCase):
    def test_functions_and_their_parameters(self):
        for name, functions in INTERFACE.items():
            module = importlib.import_module(f"brushedsigns.{name}")
            for function, parameters in functions.items():
                found = getattr(module, function)
                self.assertEqual(found.__module__, f"brushedsigns.{name}")
                self.assertEqual(list(inspect.signature(found).parameters), parameters)


if __name__ == "__main__":
    unittest.main()
