"""The rules of the language subset, as far as they can be seen line by line and node by node."""

import ast
import builtins
import re
import unittest
from pathlib import Path

PACKAGE = Path(__file__).resolve().parent.parent / "typegate"
FILES = sorted(PACKAGE.rglob("*.py"))
BUILTINS = set(
    "len range enumerate zip min max sum abs sorted reversed int str bool list tuple dict set isinstance ord repr any all"
    " divmod next iter map Exception ValueError KeyError IndexError LookupError ZeroDivisionError None True False".split())
METHODS = set(
    "append clear copy count endswith extend find get index insert isalnum isalpha isdigit islower isspace isupper items"
    " join keys ljust lower lstrip partition pop remove replace reverse rfind rjust rpartition rsplit rstrip setdefault"
    " split splitlines startswith strip update upper values zfill bit_length add discard removeprefix removesuffix".split())
STATEMENTS = (
    ast.Assign, ast.AugAssign, ast.If, ast.While, ast.For, ast.Return, ast.Break, ast.Continue, ast.Pass, ast.Raise,
    ast.Assert, ast.Delete, ast.Nonlocal, ast.Try, ast.Expr, ast.FunctionDef, ast.ClassDef, ast.ImportFrom)
BARRED = re.compile(
    r"\b(type|typing|typing_extensions|enum|Enum|IntEnum|StrEnum|Flag|IntFlag|Generic|Protocol|ABC|ABCMeta|namedtuple"
    r"|NamedTuple|TypedDict|TYPE_CHECKING|abstractmethod|register|mro|elements|law|_wall|_WallAttr)\b"
    r"|dataclass|overload|contextmanager")
DUNDERS = {"__init__", "__eq__"}


def trees():
    return [(path, ast.parse(path.read_text(encoding="utf-8"))) for path in FILES]


def nodes(kind):
    return [(path, node) for path, tree in trees() for node in ast.walk(tree) if isinstance(node, kind)]


def docstrings(tree):
    found = []
    for node in ast.walk(tree):
        if isinstance(node, (ast.Module, ast.ClassDef, ast.FunctionDef)) and ast.get_docstring(node) is not None:
            found.append(node.body[0].value)
    return found


class Files(unittest.TestCase):
    def test_the_package_holds_only_its_files(self):
        for path in PACKAGE.rglob("*"):
            if "__pycache__" not in path.parts:
                self.assertTrue(path.is_dir() or re.fullmatch(r"[a-z0-9_]+\.py", path.name), path)

    def test_sizes_and_characters(self):
        for path in FILES:
            lines = path.read_text(encoding="ascii").split("\n")
            self.assertLessEqual(len(lines) - 1, 399, path)
            for line in lines:
                self.assertTrue(re.fullmatch(r"[ -~]{0,120}", line), (path, line))

    def test_functions_have_at_most_40_lines(self):
        for path, node in nodes(ast.FunctionDef):
            self.assertLessEqual(node.end_lineno - node.lineno + 1, 40, (path, node.name))

    def test_barred_words(self):
        for path, tree in trees():
            lines = path.read_text(encoding="ascii").split("\n")
            for docstring in docstrings(tree):
                for number in range(docstring.lineno - 1, docstring.end_lineno):
                    lines[number] = ""
            for line in lines:
                self.assertIsNone(BARRED.search(line.split("  #")[0] if not line.lstrip().startswith("#") else ""), line)


class Imports(unittest.TestCase):
    def graph(self):
        found = {path.stem: set() for path in FILES}
        for path, node in nodes(ast.ImportFrom):
            self.assertTrue(node.level == 0 and node.module.startswith("typegate."), path)
            found[path.stem].add(node.module.split(".")[1])
        return found

    def test_they_stand_at_the_top_and_name_the_defining_file(self):
        self.assertEqual(nodes(ast.Import), [])
        for path, tree in trees():
            kinds = [isinstance(node, ast.ImportFrom) for node in tree.body[1:]]
            self.assertEqual(kinds, sorted(kinds, reverse=True), path)
            for node in tree.body:
                if isinstance(node, ast.ImportFrom):
                    self.defined(node)

    def defined(self, node):
        tree = ast.parse((PACKAGE / (node.module.split(".")[1] + ".py")).read_text(encoding="ascii"))
        bound = {part.name for part in tree.body if isinstance(part, (ast.FunctionDef, ast.ClassDef))}
        bound |= {part.targets[0].id for part in tree.body if isinstance(part, ast.Assign)}
        for alias in node.names:
            self.assertIn(alias.name, bound)
            self.assertIsNone(alias.asname)
            self.assertFalse(alias.name.startswith("_"), alias.name)

    def test_none_goes_round(self):
        graph = self.graph()
        while graph:
            free = [name for name in graph if not graph[name] & set(graph)]
            self.assertTrue(free, graph)
            for name in free:
                del graph[name]

    def test_all_imports_are_used(self):
        for path, tree in trees():
            used = {node.id for node in ast.walk(tree) if isinstance(node, ast.Name)}
            for node in tree.body:
                if isinstance(node, ast.ImportFrom):
                    for alias in node.names:
                        self.assertIn(alias.name, used, path)


class Modules(unittest.TestCase):
    def test_what_stands_at_module_level(self):
        for path, tree in trees():
            self.assertIsNotNone(ast.get_docstring(tree), path)
            functions = []
            for node in tree.body[1:]:
                self.assertIsInstance(node, (ast.ImportFrom, ast.FunctionDef, ast.ClassDef, ast.Assign))
                if isinstance(node, ast.FunctionDef):
                    functions.append(node.name)
                if isinstance(node, ast.Assign):
                    self.assertTrue(len(node.targets) == 1 and isinstance(node.targets[0], ast.Name))
                    self.plain(node.value, functions)

    def test_lists_and_dicts_are_only_read(self):
        """A list or dict at module level is indexed, iterated over, tested, or passed on as a copy."""
        named = set()
        for _, tree in trees():
            for node in tree.body:
                if isinstance(node, ast.Assign) and isinstance(node.value, (ast.Dict, ast.List)):
                    named.add(node.targets[0].id)
        for path, tree in trees():
            parents = {child: node for node in ast.walk(tree) for child in ast.iter_child_nodes(node)}
            for node in ast.walk(tree):
                if isinstance(node, ast.Name) and isinstance(node.ctx, ast.Load) and node.id in named:
                    above = parents[node]
                    right = (isinstance(above, (ast.Subscript, ast.Compare, ast.For, ast.comprehension))
                             or isinstance(above, ast.Attribute) and above.attr in ("get", "items", "keys", "values")
                             or isinstance(above, ast.Call) and getattr(above.func, "id", "") in ("list", "dict", "len", "sorted"))
                    self.assertTrue(right, (path, node.lineno, node.id))
                    if isinstance(above, ast.Subscript):
                        self.assertIsInstance(above.ctx, ast.Load, path)

    def plain(self, value, functions):
        """A value that is written out, or a dict of functions that are defined above."""
        if isinstance(value, ast.Dict) and all(isinstance(worth, ast.Name) for worth in value.values):
            self.assertLessEqual({worth.id for worth in value.values}, set(functions))
            value = ast.Tuple(value.keys, ast.Load())
        told = ast.literal_eval(value)
        for thing in (list(told.values()) if isinstance(told, dict) else told if isinstance(told, (list, tuple)) else []):
            self.assertNotIsInstance(thing, (list, dict, set))

    def test_a_name_is_bound_once(self):
        for path, tree in trees():
            imported = [alias.name for node in tree.body if isinstance(node, ast.ImportFrom) for alias in node.names]
            classes = [node.name for node in tree.body if isinstance(node, ast.ClassDef)]
            others = [node.name for node in tree.body if isinstance(node, ast.FunctionDef)]
            others += [node.targets[0].id for node in tree.body if isinstance(node, ast.Assign)]
            bound = imported + classes + others
            self.assertEqual(len(bound), len(set(bound)), path)
            for node in ast.walk(tree):
                if isinstance(node, ast.FunctionDef):
                    self.assertEqual(self.inner(node) & set(imported + classes), set(), (path, node.name))

    def inner(self, function):
        """The parameters and local variables of a function."""
        found = {node.arg for node in ast.walk(function) if isinstance(node, ast.arg)}
        return found | {node.id for node in ast.walk(function)
                        if isinstance(node, ast.Name) and isinstance(node.ctx, ast.Store)}


class Nodes(unittest.TestCase):
    def test_statements(self):
        for path, node in nodes(ast.stmt):
            self.assertIsInstance(node, STATEMENTS, (path, node.lineno))

    def test_no_decorators_and_annotations(self):
        for path, node in nodes((ast.FunctionDef, ast.ClassDef)):
            self.assertEqual(node.decorator_list, [], path)
        for path, node in nodes(ast.FunctionDef):
            self.assertIsNone(node.returns)
        for path, node in nodes(ast.arg):
            self.assertIsNone(node.annotation)

    def test_no_generators(self):
        # Where a class has an __eq__, any, all and their like take lists.
        self.assertEqual(nodes((ast.GeneratorExp, ast.Yield, ast.YieldFrom, ast.Await)), [])

    def test_methods_with_double_underscores(self):
        for path, node in nodes(ast.FunctionDef):
            if node.name.startswith("__"):
                self.assertIn(node.name, DUNDERS, path)

    def test_names_of_builtins(self):
        known = set(dir(builtins))
        for path, node in nodes(ast.Name):
            if node.id in known:
                self.assertIsInstance(node.ctx, ast.Load, (path, node.id))
                self.assertIn(node.id, BUILTINS, path)
        for path, node in nodes(ast.arg):
            self.assertNotIn(node.arg, known, path)
        for path, node in nodes((ast.FunctionDef, ast.ClassDef)):
            if not node.name.startswith("__"):
                self.assertNotIn(node.name, known, path)

    def test_methods_that_are_called(self):
        own = {node.name for _, node in nodes(ast.FunctionDef)}
        for path, node in nodes(ast.Call):
            if isinstance(node.func, ast.Attribute):
                self.assertIn(node.func.attr, METHODS | own, (path, node.lineno))

    def test_attributes_that_are_read_are_assigned(self):
        stored = {node.attr for _, node in nodes(ast.Attribute) if isinstance(node.ctx, ast.Store)}
        called = {node.func.attr for _, node in nodes(ast.Call) if isinstance(node.func, ast.Attribute)}
        for path, node in nodes(ast.Attribute):
            self.assertIn(node.attr, stored | called, (path, node.lineno))

    def test_attributes_are_assigned_through_local_names(self):
        for path, node in nodes(ast.Attribute):
            if isinstance(node.ctx, ast.Store):
                self.assertIsInstance(node.value, ast.Name, (path, node.lineno))

    def test_no_name_is_a_method_and_an_attribute(self):
        methods = {part.name for _, node in nodes(ast.ClassDef) for part in node.body if isinstance(part, ast.FunctionDef)}
        stored = {node.attr for _, node in nodes(ast.Attribute) if isinstance(node.ctx, ast.Store)}
        self.assertEqual(methods & stored, set())

    def test_constants(self):
        for path, tree in trees():
            told = docstrings(tree)
            for node in ast.walk(tree):
                if isinstance(node, ast.Constant):
                    self.assertNotIsInstance(node.value, (float, complex))
                    if isinstance(node.value, str) and node not in told:
                        self.assertNotIn("%", node.value, path)
                        self.assertFalse(node.value.endswith(("._", ".__")), path)

    def test_no_star_stands_in_an_index(self):
        for path, node in nodes(ast.Subscript):
            stars = [part for part in ast.walk(node.slice) if isinstance(part, ast.Starred)]
            self.assertEqual(stars, [], (path, node.lineno))

    def test_no_star_stands_in_a_set(self):
        for path, node in nodes(ast.Set):
            stars = [part for part in node.elts if isinstance(part, ast.Starred)]
            self.assertEqual(stars, [], (path, node.lineno))

    def test_is_stands_beside_none_true_and_false(self):
        for path, node in nodes(ast.Compare):
            for sign, other in zip(node.ops, node.comparators):
                if isinstance(sign, (ast.Is, ast.IsNot)):
                    self.assertTrue(isinstance(other, ast.Constant) and other.value in (None, True, False), path)

    def test_every_function_is_used_or_promised(self):
        promised = set(
            "parameters result is_name is_class_name file_of text_bytes bytes_text fault denoted loading_error line"
            " interfaces_of is_below fits least judged fault_of frames_of needed frames_found read written resolved_type"
            " resolved_field resolved_method asked overrides called call seen sort_of is_raw held statics stands names_of"
            " use_demands class_demands all_demands quarrel can_quarrel is_quarrel __init__ __eq__".split())
        used = {node.id for _, node in nodes(ast.Name)} | {node.attr for _, node in nodes(ast.Attribute)}
        for path, node in nodes(ast.FunctionDef):
            self.assertIn(node.name, used | promised, path)


if __name__ == "__main__":
    unittest.main()
