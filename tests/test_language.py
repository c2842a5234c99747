"""The package keeps to a small part of Python: what of that can be seen in its files is checked here."""

import ast
import builtins
import pathlib
import re
import unittest

PACKAGE = pathlib.Path(__file__).resolve().parent.parent / "scenemend"
FILES = sorted(PACKAGE.glob("*.py"))
ERRORS = (
    "Exception ValueError TypeError KeyError IndexError LookupError ZeroDivisionError ArithmeticError "
    "OverflowError RuntimeError NotImplementedError AttributeError StopIteration"
).split()
FREE = (
    "len range enumerate zip min max sum abs sorted reversed int str bool list tuple dict set frozenset "
    "isinstance ord repr any all divmod"
).split() + ERRORS
METHODS = (
    "append clear copy count endswith extend find get index insert isalnum isalpha isdigit islower isspace "
    "isupper items join keys ljust lower lstrip partition pop remove replace reverse rfind rjust rpartition "
    "rsplit rstrip setdefault split splitlines startswith strip update upper values zfill bit_length"
).split()
STATEMENTS = (
    ast.Assign, ast.AugAssign, ast.If, ast.While, ast.For, ast.Return, ast.Break, ast.Continue, ast.Pass,
    ast.Raise, ast.Try, ast.Expr, ast.FunctionDef, ast.ClassDef, ast.ImportFrom,
)
BARRED = (
    ast.Div, ast.SetComp, ast.DictComp, ast.GeneratorExp, ast.NamedExpr, ast.Starred, ast.Yield, ast.YieldFrom,
    ast.Await, ast.MatMult, ast.AnnAssign,
)
NOWHERE = (
    "register mro elements open input version_info with_traceback add_note attrgetter breakpoint builtins compile "
    "copyright credits delattr dir eval exec exit gc getattr globals hasattr help id importlib license locals "
    "methodcaller os quit setattr super type vars sys __name__"
).split()
WORDS = re.compile(
    r"\b(type|typing|typing_extensions|enum|Enum|IntEnum|StrEnum|Flag|IntFlag|Generic|Protocol|ABC|ABCMeta|"
    r"namedtuple|NamedTuple|TypedDict|TYPE_CHECKING|abstractmethod)\b|dataclass|overload|contextmanager"
)
WALKED = ("zip", "enumerate", "reversed", "range")
WALKERS = ("list", "tuple", "dict", "sorted", "sum", "any", "all", "enumerate", "zip", "min", "max")
KEYWORDS = {
    "sorted": ("key", "reverse"), "min": ("key", "default"), "max": ("key", "default"),
    "sum": ("start",), "enumerate": ("start",), "zip": ("strict",),
}
OWN_METHODS = ("__init__", "__eq__", "__repr__", "__str__", "__len__")
TAKEN = set(dir(builtins))
VALUES_KINDS = (str, int, list, dict, set, bytes, tuple)
VALUES_FREE = "count index title find get join lower upper split strip copy add".split()


def tree_of(path):
    tree = ast.parse(path.read_text(encoding="ascii"))
    for node in ast.walk(tree):
        for child in ast.iter_child_nodes(node):
            child.above = node
    return tree


TREES = {path: tree_of(path) for path in FILES}


def nodes(kind):
    for path, tree in TREES.items():
        for node in ast.walk(tree):
            if isinstance(node, kind):
                yield f"{path.name}:{getattr(node, 'lineno', 0)}", node


def imports_of(path):
    return [node for node in TREES[path].body if isinstance(node, ast.ImportFrom)]


def top_names(tree):
    names = []
    for node in tree.body:
        if isinstance(node, (ast.FunctionDef, ast.ClassDef)):
            names.append(node.name)
        elif isinstance(node, ast.Assign):
            names.extend(target.id for target in node.targets)
        elif isinstance(node, ast.ImportFrom):
            names.extend(alias.asname or alias.name for alias in node.names)
    return names


def bound_within(tree):
    """Parameters and locals of all functions, and the names that comprehensions bind."""
    for node in ast.walk(tree):
        if isinstance(node, ast.arg):
            yield node.lineno, node.arg
        elif isinstance(node, ast.Name) and isinstance(node.ctx, ast.Store) and not isinstance(node.above, ast.Module):
            if not (isinstance(node.above, ast.Assign) and isinstance(node.above.above, ast.Module)):
                yield node.lineno, node.id
        elif isinstance(node, ast.ExceptHandler) and node.name:
            yield node.lineno, node.name


class FilesTest(unittest.TestCase):
    def test_only_python_files_with_plain_names(self):
        for path in PACKAGE.iterdir():
            if path.name != "__pycache__":
                self.assertRegex(path.name, r"^(__init__|[a-z][a-z0-9_]*)\.py$")
                self.assertNotIn(path.stem, TAKEN)

    def test_signs_and_sizes(self):
        for path in FILES:
            text = path.read_text(encoding="ascii")
            self.assertRegex(text, r"\A[ -~\n]*\Z", path.name)
            self.assertLessEqual(len(text.splitlines()), 400, path.name)
            for number, line in enumerate(text.splitlines(), 1):
                self.assertLessEqual(len(line), 120, f"{path.name}:{number}")
                self.assertIsNone(WORDS.search(line), f"{path.name}:{number}")
        for where, node in nodes(ast.FunctionDef):
            self.assertLessEqual(node.end_lineno - node.lineno + 1, 40, where)


class TopTest(unittest.TestCase):
    def test_what_stands_at_the_top(self):
        for path, tree in TREES.items():
            for place, node in enumerate(tree.body):
                if place == 0:
                    self.assertIsNotNone(ast.get_docstring(tree), path.name)
                    continue
                kinds = (ast.ImportFrom, ast.FunctionDef, ast.ClassDef, ast.Assign)
                self.assertIsInstance(node, kinds, f"{path.name}:{node.lineno}")
                if isinstance(node, ast.Assign):
                    self.check_value(path, node.value)
            names = top_names(tree)
            self.assertEqual(len(names), len(set(names)), path.name)

    def check_value(self, path, value):
        defs = [node.name for node in TREES[path].body if isinstance(node, ast.FunctionDef)]
        for node in ast.walk(value):
            kinds = (ast.Constant, ast.List, ast.Tuple, ast.Dict, ast.Name, ast.Load, ast.UnaryOp, ast.USub)
            self.assertIsInstance(node, kinds, f"{path.name}:{value.lineno}")
            if isinstance(node, ast.Name):
                self.assertIn(node.id, defs, f"{path.name}:{value.lineno}")
            if node is not value:
                self.assertNotIsInstance(node, (ast.List, ast.Dict), f"{path.name}:{value.lineno}")

    def test_imports(self):
        own = {f"scenemend.{path.stem}": path for path in FILES}
        for path in FILES:
            for node in imports_of(path):
                where = f"{path.name}:{node.lineno}"
                self.assertEqual(node.level, 0, where)
                self.assertIn(node.module, own, where)
                source = TREES[own[node.module]]
                defined = [n.name for n in source.body if isinstance(n, (ast.FunctionDef, ast.ClassDef))]
                defined += [t.id for n in source.body if isinstance(n, ast.Assign) for t in n.targets]
                for alias in node.names:
                    self.assertIsNone(alias.asname, where)
                    self.assertIn(alias.name, defined, where)

    def test_no_two_files_draw_from_one_another(self):
        drawn = {path.stem: [node.module.split(".")[1] for node in imports_of(path)] for path in FILES}
        gone = []
        while len(gone) < len(drawn):
            ready = [name for name in drawn if name not in gone and all(other in gone for other in drawn[name])]
            self.assertTrue(ready, "a ring of files")
            gone.extend(ready)

    def test_no_import_stands_idle(self):
        for path, tree in TREES.items():
            used = {node.id for node in ast.walk(tree) if isinstance(node, ast.Name)}
            for node in imports_of(path):
                for alias in node.names:
                    self.assertIn(alias.name, used, path.name)


class FormsTest(unittest.TestCase):
    def test_statements_and_expressions(self):
        for where, node in nodes(ast.stmt):
            self.assertIsInstance(node, STATEMENTS, where)
            if isinstance(node, ast.Expr) and not isinstance(node.above, ast.Module):
                self.assertIsInstance(node.value, ast.Call, where)
            if isinstance(node, ast.Assign):
                self.assertEqual(len(node.targets), 1, where)
                self.assertNotIsInstance(node.targets[0], (ast.Tuple, ast.List), where)
            if isinstance(node, (ast.For, ast.While)):
                self.assertEqual(node.orelse, [], where)
            if isinstance(node, ast.Try):
                self.assertEqual(node.finalbody, [], where)
        for where, node in nodes(BARRED):
            self.fail(f"{where} {node}")

    def test_functions_and_classes(self):
        for where, node in nodes((ast.FunctionDef, ast.Lambda)):
            told = node.args
            self.assertFalse(told.vararg or told.kwarg or told.kwonlyargs or told.posonlyargs, where)
            for default in told.defaults:
                self.assertIsInstance(default, ast.Constant, where)
        for where, node in nodes((ast.FunctionDef, ast.ClassDef)):
            self.assertEqual(node.decorator_list, [], where)
        for where, node in nodes(ast.ClassDef):
            self.assertIsInstance(node.above, ast.Module, where)
            self.assertLessEqual(len(node.bases), 1, where)
            names = [part.name for part in node.body if isinstance(part, ast.FunctionDef)]
            self.assertEqual(len(names), len(set(names)), where)
            for part in node.body:
                self.assertIsInstance(part, (ast.FunctionDef, ast.Pass), where)

    def test_comprehensions_fstrings_and_is(self):
        for where, node in nodes(ast.ListComp):
            self.assertEqual(len(node.generators), 1, where)
            self.assertLessEqual(len(node.generators[0].ifs), 1, where)
        for where, node in nodes(ast.FormattedValue):
            self.assertIsInstance(node.value, ast.Name, where)
            self.assertIsNone(node.format_spec, where)
        for where, node in nodes(ast.Compare):
            for sign, right in zip(node.ops, node.comparators):
                if isinstance(sign, (ast.Is, ast.IsNot)):
                    self.assertIsInstance(right, ast.Constant, where)
                    self.assertIn(right.value, (None, True, False), where)

    def test_values(self):
        for where, node in nodes(ast.Constant):
            self.assertIn(type(node.value), (int, str, bool, type(None)), where)
            if isinstance(node.value, str):
                self.assertNotIn(chr(37), node.value, where)
        for where, node in nodes(ast.Set):
            self.assertIsInstance(node.above, ast.Compare, where)
        for where, node in nodes(ast.Call):
            if isinstance(node.func, ast.Name) and node.func.id in ("set", "frozenset"):
                above = node.above
                while isinstance(above, ast.BinOp):
                    above = above.above
                beside = isinstance(above, ast.Compare)
                within = isinstance(above, ast.Call) and getattr(above.func, "id", "") in ("sorted", "len")
                self.assertTrue(beside or within, where)
        for where, node in nodes(ast.BinOp):
            if isinstance(node.op, ast.Pow):
                self.assertIsInstance(node.right, ast.Constant, where)


class NamesTest(unittest.TestCase):
    def test_python_own_names(self):
        for path, tree in TREES.items():
            known = set(top_names(tree)) | {name for line, name in bound_within(tree)}
            known |= {node.name for node in ast.walk(tree) if isinstance(node, ast.FunctionDef)}
            for node in ast.walk(tree):
                if isinstance(node, ast.Name) and node.id not in known:
                    self.assertIn(node.id, FREE, f"{path.name}:{node.lineno}")

    def test_no_name_is_given_another_meaning(self):
        for path, tree in TREES.items():
            barred = TAKEN | {node.name for node in tree.body if isinstance(node, ast.ClassDef)}
            for node in imports_of(path):
                barred |= {alias.name for alias in node.names}
            for line, name in bound_within(tree):
                self.assertNotIn(name, barred, f"{path.name}:{line}")
            for name in top_names(tree):
                self.assertNotIn(name, TAKEN, path.name)

    def test_plain_names(self):
        for path, tree in TREES.items():
            for node in ast.walk(tree):
                where = f"{path.name}:{getattr(node, 'lineno', 0)}"
                for part in ("name", "id", "arg", "attr"):
                    name = getattr(node, part, None)
                    if isinstance(name, str) and name not in OWN_METHODS:
                        self.assertRegex(name, r"^[A-Za-z][A-Za-z0-9_]*$", where)
                        self.assertNotIn(name, NOWHERE, where)

    def test_attributes(self):
        methods = set()
        for where, node in nodes(ast.ClassDef):
            methods |= {part.name for part in node.body if isinstance(part, ast.FunctionDef)}
        values = {node.attr for where, node in nodes(ast.Attribute) if isinstance(node.ctx, ast.Store)}
        self.assertEqual(methods & values, set())
        of_python = {name for kind in VALUES_KINDS for name in dir(kind)}
        for name in values:
            self.assertTrue(name not in of_python or name in VALUES_FREE, name)
        for name in methods:
            self.assertTrue(name not in of_python or name in METHODS + ["add", "discard"] + list(OWN_METHODS), name)
        for where, node in nodes(ast.Attribute):
            self.assertIn(node.attr, METHODS + list(methods) + list(values), where)
            if node.attr not in values:
                called = isinstance(node.above, ast.Call) and node.above.func is node
                self.assertTrue(called, where)


class CallsTest(unittest.TestCase):
    def test_keywords(self):
        for where, node in nodes(ast.Call):
            for keyword in node.keywords:
                self.assertIsInstance(node.func, ast.Name, where)
                self.assertIn(keyword.arg, KEYWORDS.get(node.func.id, ()), where)

    def test_walked_at_once(self):
        for where, node in nodes(ast.Call):
            by_name = isinstance(node.func, ast.Name) and node.func.id in WALKED
            by_method = isinstance(node.func, ast.Attribute) and node.func.attr in ("items", "keys", "values")
            if by_name or by_method:
                above = node.above
                walked = isinstance(above, (ast.For, ast.comprehension)) and above.iter is node
                handed = isinstance(above, ast.Call) and getattr(above.func, "id", "") in WALKERS
                joined = isinstance(above, ast.Call) and getattr(above.func, "attr", "") == "join"
                self.assertTrue(walked or handed or joined, where)

    def test_handlers(self):
        for where, node in nodes(ast.ExceptHandler):
            self.assertIsNotNone(node.type, where)
            names = {name.id for name in ast.walk(node.type) if isinstance(name, ast.Name)}
            self.assertFalse(names & {"Exception", "TypeError", "ValueError", "LookupError", "IndexError"}, where)

    def test_lists_and_dicts_of_the_top_are_only_read(self):
        for path, tree in TREES.items():
            kept = [
                node.targets[0].id for node in tree.body
                if isinstance(node, ast.Assign) and isinstance(node.value, (ast.List, ast.Dict))
            ]
            for node in ast.walk(tree):
                if isinstance(node, ast.Name) and node.id in kept and isinstance(node.ctx, ast.Load):
                    above = node.above
                    read = isinstance(above, ast.Subscript) and isinstance(above.ctx, ast.Load)
                    asked = isinstance(above, ast.Compare) or getattr(above, "attr", "") in ("get", "items", "index")
                    walked = isinstance(above, (ast.For, ast.comprehension))
                    copied = isinstance(above, ast.Call) and getattr(above.func, "id", "") in ("list", "dict", "len")
                    self.assertTrue(read or asked or walked or copied, f"{path.name}:{node.lineno}")


if __name__ == "__main__":
    unittest.main()
