"""Those rules for the package's files that can be seen without following the code."""

import ast
import builtins
import pathlib
import re
import unittest

PACKAGE = pathlib.Path(__file__).resolve().parent.parent / "hamperlot"
BARRED = re.compile(
    r"\b(type|typing|typing_extensions|enum|Enum|IntEnum|StrEnum|Flag|IntFlag|Generic|Protocol|ABC|ABCMeta|namedtuple"
    r"|NamedTuple|TypedDict|TYPE_CHECKING|abstractmethod)\b|dataclass|overload|contextmanager"
)
# Those that the package may call and does.
BUILTIN_METHODS = set("append bit_length get join partition pop removeprefix setdefault split values".split())


def files():
    return sorted(path for path in PACKAGE.iterdir() if path.name != "__pycache__")


class RulesTest(unittest.TestCase):
    def test_the_folder_holds_python_files_alone(self):
        self.assertIn("__init__.py", [path.name for path in files()])
        for path in files():
            self.assertRegex(path.name, r"^[a-z_0-9]+\.py$")

    def test_characters_lines_and_words(self):
        for path in files():
            text = path.read_text(encoding="utf-8")
            with self.subTest(path.name):
                self.assertRegex(text, r"\A[ -~\n]*\Z")
                self.assertNotIn("%", "".join(ast.unparse(node) for node in ast.walk(ast.parse(text))
                                              if isinstance(node, ast.Constant) and isinstance(node.value, str)))
                self.assertLessEqual(len(text.splitlines()), 399)
                self.assertLessEqual(max(map(len, text.splitlines())), 120)
                self.assertIsNone(BARRED.search(text))

    def test_functions_are_short(self):
        for path in files():
            for node in ast.walk(ast.parse(path.read_text())):
                if isinstance(node, ast.FunctionDef):
                    self.assertLessEqual(node.end_lineno - node.lineno + 1, 40, (path.name, node.name))

    def test_imports_are_of_the_package_and_name_the_defining_file(self):
        for path in files():
            for node in ast.walk(ast.parse(path.read_text())):
                self.assertNotIsInstance(node, ast.Import)
                if isinstance(node, ast.ImportFrom):
                    self.assertRegex(node.module, r"^hamperlot\.\w+$")
                    self.assertEqual(node.level, 0)
                    self.assertLessEqual({alias.name for alias in node.names}, self.bound(node.module))

    def test_no_name_has_two_meanings(self):
        for path in files():
            tree = ast.parse(path.read_text())
            taken = set(dir(builtins)) | {node.name for node in tree.body if isinstance(node, ast.ClassDef)}
            for node in tree.body:
                if isinstance(node, ast.ImportFrom):
                    taken |= {alias.name for alias in node.names}
            for node in ast.walk(tree):
                name = node.arg if isinstance(node, ast.arg) else None
                if isinstance(node, ast.Name) and isinstance(node.ctx, ast.Store):
                    name = node.id
                if name is not None:
                    self.assertNotIn(name, taken, path.name)
                    self.assertFalse(name.startswith("_"), (path.name, name))

    def test_no_module_name_is_bound_twice(self):
        for path in files():
            tree = ast.parse(path.read_text())
            names = [node.name for node in tree.body if isinstance(node, (ast.FunctionDef, ast.ClassDef))]
            names += [node.targets[0].id for node in tree.body if isinstance(node, ast.Assign)]
            for node in tree.body:
                names += [alias.name for alias in node.names] if isinstance(node, ast.ImportFrom) else []
            self.assertEqual(len(names), len(set(names)), path.name)

    def test_plain_expressions(self):
        barred = (ast.GeneratorExp, ast.Div, ast.Yield, ast.Global, ast.Await, ast.AsyncFunctionDef)
        for path in files():
            for node in ast.walk(ast.parse(path.read_text())):
                self.assertNotIsInstance(node, barred, path.name)
                if isinstance(node, ast.Constant):
                    self.assertNotIsInstance(node.value, float, path.name)
                if isinstance(node, ast.Compare) and isinstance(node.ops[0], (ast.Is, ast.IsNot)):
                    self.assertIn(ast.unparse(node.comparators[0]), ("None", "True", "False"), path.name)
                if isinstance(node, ast.Attribute):
                    self.assertNotIn(node.attr, ("sort", "add", "discard"), path.name)

    def test_no_two_files_import_from_each_other(self):
        near = {}
        for path in files():
            tree = ast.parse(path.read_text())
            near[path.stem] = {node.module.split(".")[1] for node in tree.body if isinstance(node, ast.ImportFrom)}
        while near:
            free = [file for file in near if not near[file] & set(near)]
            self.assertTrue(free, near)
            for file in free:
                del near[file]

    def test_no_import_is_unused(self):
        for path in files():
            tree = ast.parse(path.read_text())
            used = {node.id for node in ast.walk(tree) if isinstance(node, ast.Name)}
            for node in tree.body:
                if isinstance(node, ast.ImportFrom):
                    self.assertLessEqual({alias.name for alias in node.names}, used, path.name)

    def test_no_name_is_a_method_and_an_attribute(self):
        methods, made, read = set(), set(), set()
        for path in files():
            for node in ast.walk(ast.parse(path.read_text())):
                if isinstance(node, ast.ClassDef):
                    methods |= {inner.name for inner in node.body if isinstance(inner, ast.FunctionDef)}
                if isinstance(node, ast.Attribute):
                    (made if isinstance(node.ctx, ast.Store) else read).add(node.attr)
        self.assertEqual(methods & made, set())
        self.assertEqual((methods | made) & BUILTIN_METHODS, set())
        self.assertLessEqual(read, methods | made | BUILTIN_METHODS)

    def test_forms_of_double_underscore_methods(self):
        told = {"__init__": (), "__eq__": (ast.BoolOp,), "__len__": (ast.Call,), "__str__": (ast.Call,),
                "__repr__": (ast.JoinedStr,)}
        for path in files():
            for node in ast.walk(ast.parse(path.read_text())):
                if isinstance(node, ast.FunctionDef) and node.name.startswith("__"):
                    returns = [inner for inner in ast.walk(node) if isinstance(inner, ast.Return)]
                    self.assertEqual(tuple(inner.value.__class__ for inner in returns), told[node.name])

    def test_own_errors_alone_are_caught_and_raised_on_the_spot(self):
        own = self.bound("hamperlot.errors")
        for path in files():
            for node in ast.walk(ast.parse(path.read_text())):
                if isinstance(node, ast.ExceptHandler):
                    names = {inner.id for inner in ast.walk(node.type) if isinstance(inner, ast.Name)}
                    self.assertLessEqual(names, own, path.name)
                if isinstance(node, ast.Raise):
                    self.assertIn(node.exc.func.id, own, path.name)

    def bound(self, module):
        """The names that a file defines itself."""
        tree = ast.parse((PACKAGE / (module.split(".")[1] + ".py")).read_text())
        made = {node.name for node in tree.body if isinstance(node, (ast.FunctionDef, ast.ClassDef))}
        return made | {node.targets[0].id for node in tree.body if isinstance(node, ast.Assign)}


if __name__ == "__main__":
    unittest.main()
