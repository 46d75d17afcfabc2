"""The form of the package's files: what ../shared/LANGUAGE.md says that can be told by looking at them."""

import ast
import builtins
import importlib
import inspect
import pathlib
import unittest

FOLDER = pathlib.Path(__file__).resolve().parent.parent / "brushedsigns"
LIBRARY = {
    "heapq": {"heappush", "heappop", "heapify", "heapreplace", "heappushpop"},
    "math": {"gcd", "lcm", "isqrt", "comb", "perm", "factorial"},
    "itertools": {"product", "combinations", "permutations", "chain", "accumulate", "pairwise", "islice", "zip_longest"},
    "collections": {"defaultdict"},
}
INTERFACE = {
    "stocks": {"is_stock": ["thing"], "kind_of": ["stock", "name"], "sorts_of": ["stock", "name"]},
    "signs": {
        "is_sign": ["thing"], "size_of": ["sign"], "depth_of": ["sign"], "write_sign": ["sign"], "read_sign": ["text"]},
    "pictures": {
        "is_picture": ["thing"], "picture_of": ["sign"], "paths_of": ["picture"], "content_at": ["picture", "path"],
        "box_at": ["picture", "path"], "level_at": ["picture", "path"], "mirrored": ["picture"],
        "turned_over": ["picture"], "turned_side": ["picture"], "moved_path": ["picture", "word", "path"]},
    "cuts": {
        "cuts_of": ["picture", "box"], "boxes_of": ["picture"], "cells_in": ["picture", "box"],
        "count_puttings": ["picture"], "first_putting": ["picture"], "puttings": ["picture"],
        "is_putting": ["picture", "thing"], "bar_of": ["picture"], "bar_holds": ["picture", "thing"],
        "ranks_of": ["picture"], "same_shape": ["picture", "other"], "evened": ["picture"]},
    "moving": {
        "moves_of": ["sign"], "moved": ["sign", "move"], "moves_between": ["sign", "other"],
        "moves_lead": ["sign", "other", "thing"], "all_led": ["sign"], "plain": ["sign"]},
    "orders": {
        "order_of": ["sign", "hand"], "orders_of": ["picture", "hand"], "count_orders": ["picture"],
        "crosses_of": ["picture"], "one_order": ["picture"], "unlike_parts": ["picture", "hand"],
        "order_putting": ["picture", "hand", "order"], "order_bar": ["picture", "hand", "order"],
        "order_bar_holds": ["picture", "hand", "order", "thing"]},
    "books": {
        "word_at": ["stock", "book", "kinds"], "written": ["stock", "book", "picture"],
        "written_putting": ["stock", "book", "picture"], "asked_of": ["stock", "book", "picture"],
        "books_apart": ["stock", "book", "other"], "cleaned": ["stock", "book"], "mirrored_book": ["book"],
        "turned_over_book": ["book"], "side_book": ["book"]},
    "learning": {
        "hands_for": ["stock", "samples"], "choices_for": ["stock", "samples", "hand"], "learned": ["stock", "samples", "hand"],
        "choice_fault": ["stock", "samples", "hand"]},
    "strokes": {
        "strokes_of": ["stock", "book", "picture"], "sorts_row": ["stock", "book", "picture"],
        "count_strokes": ["stock", "picture"], "found_by": ["stock", "book", "signs", "sorts"],
        "telling": ["stock", "book", "signs"], "same_rows": ["stock", "book", "signs"],
        "next_sorts": ["stock", "book", "signs", "sorts"], "telling_places": ["stock", "book", "signs"],
        "unlike_by": ["stock", "book", "other", "signs"]},
    "pens": {
        "points_of": ["stock", "picture", "path", "index"], "pen_way": ["stock", "picture"],
        "lifts_of": ["stock", "book", "picture"], "lift_sum": ["stock", "book", "picture"],
        "least_lifts": ["stock", "picture", "hand"]},
    "finding": {
        "taken_out": ["picture", "box"], "found_in": ["picture", "other"], "put_in": ["picture", "box", "other"],
        "exchanged": ["picture", "other", "third"], "least_unlike": ["picture", "other"],
        "one_part_apart": ["stock", "signs"], "parts_in": ["picture"], "signs_with": ["stock", "signs", "picture"]},
    "grids": {
        "grid_picture": ["grid"], "grid_puttings": ["rows", "columns"], "grid_orders": ["rows", "columns"],
        "grid_ways": ["grid", "hand"]},
}
CLASSES = {
    "session": {"Session": {
        "__init__": ["self", "stock", "book", "picture"], "put": ["self", "path", "name"],
        "cut": ["self", "path", "word", "cut", "name"], "frame": ["self", "path", "name"], "turn": ["self", "word"],
        "rule": ["self", "kinds", "word"], "undo": ["self"], "picture": ["self"], "book": ["self"], "order": ["self"],
        "row": ["self"], "choices": ["self"], "__eq__": ["self", "other"], "copy": ["self"]}},
    "desk": {"Desk": {"__init__": ["self"], "say": ["self", "row"], "session": ["self"]}},
}
BUILTINS = {
    "len", "range", "enumerate", "zip", "min", "max", "sum", "abs", "sorted", "reversed", "int", "str", "bool", "list", "tuple",
    "dict", "set", "isinstance", "ord", "repr", "any", "all", "divmod", "super", "ValueError", "TypeError"}
METHODS = {
    "append", "clear", "copy", "count", "endswith", "extend", "find", "get", "index", "insert", "isalnum", "isalpha", "isdigit",
    "islower", "isspace", "isupper", "items", "join", "keys", "ljust", "lower", "lstrip", "partition", "pop", "remove",
    "replace", "reverse", "rfind", "rjust", "rpartition", "rsplit", "rstrip", "setdefault", "split", "splitlines",
    "startswith", "strip", "update", "upper", "values", "zfill", "bit_length", "add", "discard", "__init__"}
OWN_METHODS = {
    "put", "cut", "frame", "turn", "rule", "undo", "picture", "book", "order", "row", "choices", "copy", "session", "_part_at",
    "_check_part", "_draw", "_do"}
STATEMENTS = (ast.Global, ast.AsyncFunctionDef, ast.Try, ast.With, ast.Yield, ast.YieldFrom, ast.AnnAssign, ast.SetComp)
BARRED_WORDS = {
    "type", "typing", "typing_extensions", "enum", "Enum", "IntEnum", "StrEnum", "Flag", "IntFlag", "Generic", "Protocol",
    "ABC", "ABCMeta", "namedtuple", "NamedTuple", "TypedDict", "TYPE_CHECKING", "abstractmethod", "_wall", "_WallAttr",
    "register", "mro", "elements", "open", "input", "law", "version_info", "attrgetter", "breakpoint", "builtins", "compile",
    "copyright", "credits", "delattr", "dir", "eval", "exec", "exit", "gc", "getattr", "globals", "hasattr", "help", "id",
    "importlib", "license", "locals", "methodcaller", "os", "quit", "setattr", "vars", "sys"}


def files():
    return sorted(FOLDER.glob("*.py"))


class Form(unittest.TestCase):
    def test_the_folder_holds_files_of_the_program_alone(self):
        for path in FOLDER.iterdir():
            if path.name != "__pycache__":
                self.assertTrue(path.is_file() and path.suffix == ".py" and path.stem.replace("_", "a").isalnum(), path)
        self.assertTrue((FOLDER / "__init__.py").is_file())

    def test_lines_and_characters(self):
        for path in files():
            text = path.read_text(encoding="utf-8")
            lines = text.split("\n")
            self.assertLessEqual(len(lines), 399, path)
            self.assertLessEqual(max(map(len, lines)), 120, path)
            self.assertTrue(all(mark == "\n" or " " <= mark <= "~" for mark in text), path)

    def test_functions_have_at_most_forty_lines(self):
        for path in files():
            for node in ast.walk(ast.parse(path.read_text(encoding="utf-8"))):
                if isinstance(node, ast.FunctionDef):
                    self.assertLessEqual(node.end_lineno - node.lineno + 1, 40, f"{path}: {node.name}")

    def test_imports(self):
        for path in files():
            for node in ast.walk(ast.parse(path.read_text(encoding="utf-8"))):
                self.assertNotIsInstance(node, ast.Import, path)
                if isinstance(node, ast.ImportFrom):
                    self.check_import(path, node)

    def test_names_that_are_bound_in_functions(self):
        for path in files():
            tree = ast.parse(path.read_text(encoding="utf-8"))
            imported = {alias.name for node in tree.body if isinstance(node, ast.ImportFrom) for alias in node.names}
            above = list(bound(tree)) + sorted(imported)
            self.assertEqual(len(above), len(set(above)), path)
            for name in above + inner_names(tree):
                self.assertNotIn(name, dir(builtins), path)
                self.assertNotIn(name, BARRED_WORDS, path)
            self.assertEqual(set(inner_names(tree)) & (imported | classes(tree)), set(), path)

    def test_only_known_builtins_methods_and_statements(self):
        for path in files():
            tree = ast.parse(path.read_text(encoding="utf-8"))
            for node in ast.walk(tree):
                self.assertNotIsInstance(node, STATEMENTS, path)
                if isinstance(node, ast.Name) and node.id in dir(builtins):
                    self.assertIn(node.id, BUILTINS, path)
                if isinstance(node, ast.Call) and isinstance(node.func, ast.Attribute):
                    self.assertIn(node.func.attr, METHODS | OWN_METHODS, path)
                if isinstance(node, ast.Constant) and isinstance(node.value, str):
                    self.assertNotIn("%", node.value, path)
                self.assertFalse(isinstance(node, ast.BinOp) and isinstance(node.op, ast.Div), path)
                self.assertFalse(isinstance(node, ast.Constant) and isinstance(node.value, float), path)

    def test_any_and_all_take_lists(self):
        for path in files():
            for node in ast.walk(ast.parse(path.read_text(encoding="utf-8"))):
                self.assertNotIsInstance(node, ast.GeneratorExp, path)

    def test_no_two_files_import_from_each_other(self):
        imports = {}
        for path in files():
            tree = ast.parse(path.read_text(encoding="utf-8"))
            modules = [node.module for node in tree.body if isinstance(node, ast.ImportFrom)]
            imports[path.stem] = {name.partition(".")[2] for name in modules if name not in LIBRARY}
        while imports:
            free = [name for name, others in imports.items() if not others]
            self.assertTrue(free, imports)
            imports = {name: others - set(free) for name, others in imports.items() if name not in free}

    def check_import(self, path, node):
        names = {alias.name for alias in node.names}
        self.assertEqual(node.level, 0, path)
        if node.module in LIBRARY:
            self.assertLessEqual(names, LIBRARY[node.module], path)
            return
        folder, _, name = node.module.partition(".")
        self.assertEqual(folder, "brushedsigns", path)
        tree = ast.parse((FOLDER / f"{name}.py").read_text(encoding="utf-8"))
        self.assertLessEqual(names, set(bound(tree)), path)


def bound(tree):
    """The names that a file defines itself."""
    for node in tree.body:
        if isinstance(node, (ast.FunctionDef, ast.ClassDef)):
            yield node.name
        elif isinstance(node, ast.Assign):
            yield node.targets[0].id


def classes(tree):
    return {node.name for node in tree.body if isinstance(node, ast.ClassDef)}


def inner_names(tree):
    """The names of parameters and local variables of a file."""
    found = []
    for function in ast.walk(tree):
        if isinstance(function, (ast.FunctionDef, ast.Lambda)):
            for node in ast.walk(function):
                if isinstance(node, ast.arg):
                    found.append(node.arg)
                if isinstance(node, ast.Name) and isinstance(node.ctx, ast.Store):
                    found.append(node.id)
    return found


class Interface(unittest.TestCase):
    def test_functions_and_their_parameters(self):
        for name, functions in INTERFACE.items():
            module = importlib.import_module(f"brushedsigns.{name}")
            for function, parameters in functions.items():
                found = getattr(module, function)
                self.assertEqual(found.__module__, f"brushedsigns.{name}")
                self.assertEqual(list(inspect.signature(found).parameters), parameters)

    def test_classes_and_their_methods(self):
        for name, told in CLASSES.items():
            module = importlib.import_module(f"brushedsigns.{name}")
            for word, methods in told.items():
                found = getattr(module, word)
                self.assertEqual(found.__module__, f"brushedsigns.{name}")
                for method, parameters in methods.items():
                    self.assertIn(method, vars(found))
                    self.assertEqual(list(inspect.signature(vars(found)[method]).parameters), parameters)

    def test_no_attribute_has_the_name_of_a_method(self):
        for path in files():
            for node in ast.parse(path.read_text(encoding="utf-8")).body:
                if isinstance(node, ast.ClassDef):
                    methods = {inner.name for inner in node.body if isinstance(inner, ast.FunctionDef)}
                    stored = {inner.attr for inner in ast.walk(node)
                              if isinstance(inner, ast.Attribute) and isinstance(inner.ctx, ast.Store)}
                    self.assertEqual(methods & stored, set(), path)


if __name__ == "__main__":
    unittest.main()
