"""The form of the package's files: what ../shared/LANGUAGE.md says that can be told by looking at them."""

import ast
import builtins
import importlib
import inspect
import pathlib
import re
import unittest

FOLDER = pathlib.Path(__file__).resolve().parent.parent / "brushedsigns"
LIBRARY = {
    "heapq": {"heappush", "heappop", "heapify", "heapreplace", "heappushpop"},
    "math": {"gcd", "lcm", "isqrt", "comb", "perm", "factorial"},
    "itertools": {"product", "combinations", "permutations", "chain", "accumulate", "pairwise", "islice", "zip_longest"},
    "collections": {"defaultdict"},
}
INTERFACE = {
    "stocks": {"is_stock": ["thing"], "kind_of": ["stock", "name"], "sorts_of": ["stock", "name"]},
    "signs": {
        "is_sign": ["thing"], "size_of": ["sign"], "depth_of": ["sign"], "write_sign": ["sign"], "read_sign": ["text"]},
    "pictures": {
        "is_picture": ["thing"], "picture_of": ["sign"], "paths_of": ["picture"], "content_at": ["picture", "path"],
        "box_at": ["picture", "path"], "level_at": ["picture", "path"], "mirrored": ["picture"],
        "turned_over": ["picture"], "turned_side": ["picture"], "moved_path": ["picture", "word", "path"]},
    "cuts": {
        "cuts_of": ["picture", "box"], "boxes_of": ["picture"], "cells_in": ["picture", "box"],
        "count_puttings": ["picture"], "first_putting": ["picture"], "puttings": ["picture"],
        "is_putting": ["picture", "thing"], "bar_of": ["picture"], "bar_holds": ["picture", "thing"],
        "ranks_of": ["picture"], "same_shape": ["picture", "other"], "evened": ["picture"]},
    "moving": {
        "moves_of": ["sign"], "moved": ["sign", "move"], "moves_between": ["sign", "other"],
        "moves_lead": ["sign", "other", "thing"], "all_led": ["sign"], "plain": ["sign"]},
    "orders": {
        "order_of": ["sign", "hand"], "orders_of": ["picture", "hand"], "count_orders": ["picture"],
        "crosses_of": ["picture"], "one_order": ["picture"], "unlike_parts": ["picture", "hand"],
        "order_putting": ["picture", "hand", "order"], "order_bar": ["picture", "hand", "order"],
        "order_bar_holds": ["picture", "hand", "order", "thing"]},
    "books": {
        "word_at": ["stock", "book", "kinds"], "written": ["stock", "book", "picture"],
        "written_putting": ["stock", "book", "picture"], "asked_of": ["stock", "book", "picture"],
        "books_apart": ["stock", "book", "other"], "cleaned": ["stock", "book"], "mirrored_book": ["book"],
        "turned_over_book": ["book"], "side_book": ["book"]},
    "learning": {
        "hands_for": ["stock", "samples"], "choices_for": ["stock", "samples", "hand"], "learned": ["stock", "samples", "hand"],
        "choice_fault": ["stock", "samples", "hand"]},
    "strokes": {
        "strokes_of": ["stock", "book", "picture"], "sorts_row": ["stock", "book", "picture"],
        "count_strokes": ["stock", "picture"], "found_by": ["stock", "book", "signs", "sorts"],
        "telling": ["stock", "book", "signs"], "same_rows": ["stock", "book", "signs"],
        "next_sorts": ["stock", "book", "signs", "sorts"], "telling_places": ["stock", "book", "signs"],
        "unlike_by": ["stock", "book", "other", "signs"]},
    "pens": {
        "points_of": ["stock", "picture", "path", "index"], "pen_way": ["stock", "picture"],
        "lifts_of": ["stock", "book", "picture"], "lift_sum": ["stock", "book", "picture"],
        "least_lifts": ["stock", "picture", "hand"]},
    "finding": {
        "taken_out": ["picture", "box"], "found_in": ["picture", "other"], "put_in": ["picture", "box", "other"],
        "exchanged": ["picture", "other", "third"], "least_unlike": ["picture", "other"],
        "one_part_apart": ["stock", "signs"], "parts_in": ["picture"], "signs_with": ["stock", "signs", "picture"]},
    "grids": {
        "grid_picture": ["grid"], "grid_puttings": ["rows", "columns"], "grid_orders": ["rows", "columns"],
        "grid_ways": ["grid", "hand"]},
}
CLASSES = {
    "session": {"Session": {
        "__init__": ["self", "stock", "book", "picture"], "put": ["self", "path", "name"],
        "cut": ["self", "path", "word", "cut", "name"], "frame": ["self", "path", "name"], "turn": ["self", "word"],
        "rule": ["self", "kinds", "word"], "undo": ["self"], "picture": ["self"], "book": ["self"], "order": ["self"],
        "row": ["self"], "choices": ["self"], "__eq__": ["self", "other"], "copy": ["self"]}},
    "desk": {"Desk": {"__init__": ["self"], "say": ["self", "row"], "session": ["self"]}},
}
BUILTINS = {
    "len", "range", "enumerate", "zip", "min", "max", "sum", "abs", "sorted", "reversed", "int", "str", "bool", "list", "tuple",
    "dict", "set", "isinstance", "ord", "repr", "any", "all", "divmod", "super", "ValueError", "TypeError"}
METHODS = {
    "append", "clear", "copy", "count", "endswith", "extend", "find", "get", "index", "insert", "isalnum", "isalpha", "isdigit",
    "islower", "isspace", "isupper", "items", "join", "keys", "ljust", "lower", "lstrip", "partition", "pop", "remove",
    "replace", "reverse", "rfind", "rjust", "rpartition", "rsplit", "rstrip", "setdefault", "split", "splitlines",
    "startswith", "strip", "update", "upper", "values", "zfill", "bit_length", "add", "discard", "__init__"}
OWN_METHODS = {
    "put", "cut", "frame", "turn", "rule", "undo", "picture", "book", "order", "row", "choices", "copy", "session", "_part_at",
    "_check_part", "_draw", "_do"}
STATEMENTS = (ast.Global, ast.AsyncFunctionDef, ast.Try, ast.With, ast.Yield, ast.YieldFrom, ast.AnnAssign, ast.SetComp)
BARRED_WORDS = {
    "type", "typing", "typing_extensions", "enum", "Enum", "IntEnum", "StrEnum", "Flag", "IntFlag", "Generic", "Protocol",
    "ABC", "ABCMeta", "namedtuple", "NamedTuple", "TypedDict", "TYPE_CHECKING", "abstractmethod", "_wall", "_WallAttr",
    "register", "mro", "elements", "open", "input", "law", "version_info", "attrgetter", "breakpoint", "builtins", "compile",
    "copyright", "credits", "delattr", "dir", "eval", "exec", "exit", "gc", "getattr", "globals", "hasattr", "help", "id",
    "importlib", "license", "locals", "methodcaller", "os", "quit", "setattr", "vars", "sys"}
# Those of L12: the names are barred with digits or underscores after them, too.
BARRED_NAMES = ("_cold", "_tuplegetter", "_outside", "_record", "_written_out", "_member_names")
BARRED_BEGINNINGS = ("_pe_", "_dcw_", "_enum_", "_cm_", "_twin_re_", "_lay_", "_law_", "_stub_", "_sre", "_WallAttr")
FREE_FOR_OBJECTS = "_wall"
BARRED_EVERYWHERE = {"_wall", "_WallAttr"}


def files():
    return sorted(FOLDER.glob("*.py"))


class Form(unittest.TestCase):
    def test_the_folder_holds_files_of_the_program_alone(self):
        for path in FOLDER.iterdir():
            if path.name != "__pycache__":
                self.assertTrue(path.is_file() and path.suffix == ".py" and path.stem.replace("_", "a").isalnum(), path)
        self.assertTrue((FOLDER / "__init__.py").is_file())

    def test_lines_and_characters(self):
        for path in files():
            text = path.read_text(encoding="utf-8")
            lines = text.split("\n")
            self.assertLessEqual(len(lines), 399, path)
            self.assertLessEqual(max(map(len, lines)), 120, path)
            self.assertTrue(all(mark == "\n" or " " <= mark <= "~" for mark in text), path)

    def test_functions_have_at_most_forty_lines(self):
        for path in files():
            for node in ast.walk(ast.parse(path.read_text(encoding="utf-8"))):
                if isinstance(node, ast.FunctionDef):
                    self.assertLessEqual(node.end_lineno - node.lineno + 1, 40, f"{path}: {node.name}")

    def test_imports(self):
        for path in files():
            for node in ast.walk(ast.parse(path.read_text(encoding="utf-8"))):
                self.assertNotIsInstance(node, ast.Import, path)
                if isinstance(node, ast.ImportFrom):
                    self.check_import(path, node)

    def test_names_that_are_bound_in_functions(self):
        for path in files():
            tree = ast.parse(path.read_text(encoding="utf-8"))
            imported = {alias.name for node in tree.body if isinstance(node, ast.ImportFrom) for alias in node.names}
            above = list(bound(tree)) + sorted(imported)
            self.assertEqual(len(above), len(set(above)), path)
            for name in above + inner_names(tree):
                self.assertNotIn(name, dir(builtins), path)
                self.assertNotIn(name, BARRED_WORDS, path)
            self.assertEqual(set(inner_names(tree)) & (imported | classes(tree)), set(), path)

    def test_only_known_builtins_methods_and_statements(self):
        for path in files():
            tree = ast.parse(path.read_text(encoding="utf-8"))
            for node in ast.walk(tree):
                self.assertNotIsInstance(node, STATEMENTS, path)
                if isinstance(node, ast.Name) and node.id in dir(builtins):
                    self.assertIn(node.id, BUILTINS, path)
                if isinstance(node, ast.Call) and isinstance(node.func, ast.Attribute):
                    self.assertIn(node.func.attr, METHODS | OWN_METHODS, path)
                if isinstance(node, ast.Constant) and isinstance(node.value, str):
                    self.assertNotIn("%", node.value, path)
                self.assertFalse(isinstance(node, ast.BinOp) and isinstance(node.op, ast.Div), path)
                self.assertFalse(isinstance(node, ast.Constant) and isinstance(node.value, float), path)

    def test_any_and_all_take_lists(self):
        for path in files():
            for node in ast.walk(ast.parse(path.read_text(encoding="utf-8"))):
                self.assertNotIsInstance(node, ast.GeneratorExp, path)

    def test_no_two_files_import_from_each_other(self):
        imports = {}
        for path in files():
            tree = ast.parse(path.read_text(encoding="utf-8"))
            modules = [node.module for node in tree.body if isinstance(node, ast.ImportFrom)]
            imports[path.stem] = {name.partition(".")[2] for name in modules if name not in LIBRARY}
        while imports:
            free = [name for name, others in imports.items() if not others]
            self.assertTrue(free, imports)
            imports = {name: others - set(free) for name, others in imports.items() if name not in free}

    def check_import(self, path, node):
        names = {alias.name for alias in node.names}
        self.assertEqual(node.level, 0, path)
        if node.module in LIBRARY:
            self.assertLessEqual(names, LIBRARY[node.module], path)
            return
        folder, _, name = node.module.partition(".")
        self.assertEqual(folder, "brushedsigns", path)
        tree = ast.parse((FOLDER / f"{name}.py").read_text(encoding="utf-8"))
        self.assertLessEqual(names, set(bound(tree)), path)


def bound(tree):
    """The names that a file defines itself."""
    for node in tree.body:
        if isinstance(node, (ast.FunctionDef, ast.ClassDef)):
            yield node.name
        elif isinstance(node, ast.Assign):
            yield node.targets[0].id


def classes(tree):
    return {node.name for node in tree.body if isinstance(node, ast.ClassDef)}


def inner_names(tree):
    """The names of parameters and local variables of a file."""
    found = []
    for function in ast.walk(tree):
        if isinstance(function, (ast.FunctionDef, ast.Lambda)):
            for node in ast.walk(function):
                if isinstance(node, ast.arg):
                    found.append(node.arg)
                if isinstance(node, ast.Name) and isinstance(node.ctx, ast.Store):
                    found.append(node.id)
    return found


def names_in(tree):
    """Each name in a file's code: its line, the name, and whether it is an attribute or a method."""
    methods = {inner for node in ast.walk(tree) if isinstance(node, ast.ClassDef) for inner in node.body}
    for node in ast.walk(tree):
        of_object = isinstance(node, (ast.Attribute, ast.MatchClass, ast.Constant)) or node in methods
        for word in words_of(node):
            yield node.lineno, word, of_object


def words_of(node):
    """The names that one node of a file's code holds itself."""
    # A string that is a name as a whole counts as one: slots are given so.
    if isinstance(node, ast.Constant):
        return [node.value] if isinstance(node.value, str) and node.value.isidentifier() else []
    values = [value if isinstance(value, list) else [value] for _, value in ast.iter_fields(node)]
    names = [name for row in values for name in row if isinstance(name, str)]
    return [word for name in names for word in name.split(".")]


def is_barred(name, of_object):
    """Whether L12 bars the name; an attribute or a method may begin with what is free for objects."""
    if not of_object and name.startswith(FREE_FOR_OBJECTS):
        return True
    return name.rstrip("0123456789_") in BARRED_NAMES or name.startswith(BARRED_BEGINNINGS)


def barred_in(stem, text):
    """What L12 bars in a file, its own name included: the line and the name of each."""
    names = [(0, stem, False)] + list(names_in(ast.parse(text)))
    found = {(line, name) for line, name, of_object in names if is_barred(name, of_object)}
    for line, row in enumerate(text.split("\n"), 1):
        found.update((line, word) for word in re.findall(r"\w+", row) if word in BARRED_EVERYWHERE)
    return sorted(found)


class BarredNames(unittest.TestCase):
    FORMS = (
        "def {}(k):\n    pass", "class {}:\n    pass", "{} = 1", "k = {}(1)", "def f({}):\n    pass", "def f(*{}):\n    pass",
        "f = lambda {}: 1", "k = [1 for {} in xs]", "for k, ({}, n) in xs:\n    pass", "k = f({}=1)", "if ({} := f(k)):\n    pass",
        "from brushedsigns.cuts import {}", "from brushedsigns.cuts import cuts_of as {}", "from brushedsigns.{} import f",
        "try:\n    f()\nexcept BadBox as {}:\n    pass", "match k:\n    case [{}]:\n        pass",
        "match k:\n    case [*{}]:\n        pass", "def f():\n    def g():\n        nonlocal {}", "k = f'{{{}}}'")
    OBJECT_FORMS = (
        "k.{} = 1", "k.{}()", "class Box:\n    def {}(self):\n        pass", "class Box:\n    __slots__ = ('{}',)",
        "match k:\n    case Box({}=1):\n        pass")

    def test_no_file_of_the_package_has_one(self):
        for path in files():
            self.assertEqual(barred_in(path.stem, path.read_text(encoding="utf-8")), [], path)

    def test_each_is_found_wherever_it_stands(self):
        names = [name + end for name in BARRED_NAMES for end in ("", "2", "_", "_2", "__")]
        names += [name + end for name in BARRED_BEGINNINGS for end in ("", "x", "1")]
        for name in names:
            for form in self.FORMS + self.OBJECT_FORMS:
                text = form.format(name)
                self.assertEqual({word for _, word in barred_in("cuts", text)}, {name}, text)
            self.assertEqual(barred_in(name, ""), [(0, name)])

    def test_what_an_attribute_or_a_method_may_begin_with(self):
        for form in self.FORMS:
            self.assertEqual([word for _, word in barred_in("cuts", form.format("_walls"))], ["_walls"], form)
        for form in self.OBJECT_FORMS:
            self.assertEqual(barred_in("cuts", form.format("_walls")), [], form)

    def test_the_words_that_stand_nowhere(self):
        for word in sorted(BARRED_EVERYWHERE):
            for form in ("k = 1  # a {} here", "'''Text\n\nof a {}.'''", "k = 'the {}'", "k.{} = 1"):
                self.assertEqual({found for _, found in barred_in("cuts", form.format(word))}, {word}, form)

    def test_the_line_is_told(self):
        text = "def _outside(k):\n    return k\n\n\ndef f(k):\n    return _outside(k) + _outside(1)\n"
        self.assertEqual(barred_in("finding", text), [(1, "_outside"), (6, "_outside")])

    def test_other_names_are_free(self):
        for name in ("outside", "_outside_of", "_outsides", "_cells_outside", "record", "_recorded", "_layer", "_lawful", "_pen",
                     "_written", "_written_by", "_member", "_colder", "_enumerated", "_twin", "_stub", "_cm", "wall", "a_wall"):
            for form in self.FORMS + self.OBJECT_FORMS:
                self.assertEqual(barred_in("cuts", form.format(name)), [], form)
            self.assertEqual(barred_in(name, ""), [])
        self.assertEqual(barred_in("cuts", "k = 1  # _outside, _record\nn = 'the _outside'\n"), [])


class Interface(unittest.TestCase):
    def test_functions_and_their_parameters(self):
        for name, functions in INTERFACE.items():
            module = importlib.import_module(f"brushedsigns.{name}")
            for function, parameters in functions.items():
                found = getattr(module, function)
                self.assertEqual(found.__module__, f"brushedsigns.{name}")
                self.assertEqual(list(inspect.signature(found).parameters), parameters)

    def test_classes_and_their_methods(self):
        for name, told in CLASSES.items():
            module = importlib.import_module(f"brushedsigns.{name}")
            for word, methods in told.items():
                found = getattr(module, word)
                self.assertEqual(found.__module__, f"brushedsigns.{name}")
                for method, parameters in methods.items():
                    self.assertIn(method, vars(found))
                    self.assertEqual(list(inspect.signature(vars(found)[method]).parameters), parameters)

    def test_no_attribute_has_the_name_of_a_method(self):
        for path in files():
            for node in ast.parse(path.read_text(encoding="utf-8")).body:
                if isinstance(node, ast.ClassDef):
                    methods = {inner.name for inner in node.body if isinstance(inner, ast.FunctionDef)}
                    stored = {inner.attr for inner in ast.walk(node)
                              if isinstance(inner, ast.Attribute) and isinstance(inner.ctx, ast.Store)}
                    self.assertEqual(methods & stored, set(), path)


if __name__ == "__main__":
    unittest.main()
