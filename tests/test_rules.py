"""Those rules for the package's files that can be seen without following the code."""

import ast
import builtins
import pathlib
import re
import unittest

PACKAGE = pathlib.Path(__file__).resolve().parent.parent / "hamperlot"
BARRED = re.compile(
    r"\b(type|typing|typing_extensions|enum|Enum|IntEnum|StrEnum|Flag|IntFlag|Generic|Protocol|ABC|ABCMeta|namedtuple"
    r"|NamedTuple|TypedDict|TYPE_CHECKING|abstractmethod)\b|dataclass|overload|contextmanager"
)


def files():
    return sorted(path for path in PACKAGE.iterdir() if path.name != "__pycache__")


class RulesTest(unittest.TestCase):
    def test_the_folder_holds_python_files_alone(self):
        self.assertIn("__init__.py", [path.name for path in files()])
        for path in files():
            self.assertRegex(path.name, r"^[a-z_0-9]+\.py$")

    def test_characters_lines_and_words(self):
        for path in files():
            text = path.read_text(encoding="utf-8")
            with self.subTest(path.name):
                self.assertRegex(text, r"\A[ -~\n]*\Z")
                self.assertNotIn("%", "".join(ast.unparse(node) for node in ast.walk(ast.parse(text))
                                              if isinstance(node, ast.Constant) and isinstance(node.value, str)))
                self.assertLessEqual(len(text.splitlines()), 399)
                self.assertLessEqual(max(map(len, text.splitlines())), 120)
                self.assertIsNone(BARRED.search(text))

    def test_functions_are_short(self):
        for path in files():
            for node in ast.walk(ast.parse(path.read_text())):
                if isinstance(node, ast.FunctionDef):
                    self.assertLessEqual(node.end_lineno - node.lineno + 1, 40, (path.name, node.name))

    def test_imports_are_of_the_package_and_name_the_defining_file(self):
        for path in files():
            for node in ast.walk(ast.parse(path.read_text())):
                self.assertNotIsInstance(node, ast.Import)
                if isinstance(node, ast.ImportFrom):
                    self.assertRegex(node.module, r"^hamperlot\.\w+$")
                    self.assertEqual(node.level, 0)
                    self.assertLessEqual({alias.name for alias in node.names}, self.bound(node.module))

    def test_no_name_has_two_meanings(self):
        for path in files():
            tree = ast.parse(path.read_text())
            taken = set(dir(builtins)) | {node.name for node in tree.body if isinstance(node, ast.ClassDef)}
            for node in tree.body:
                if isinstance(node, ast.ImportFrom):
                    taken |= {alias.name for alias in node.names}
            for node in ast.walk(tree):
                name = node.arg if isinstance(node, ast.arg) else None
                if isinstance(node, ast.Name) and isinstance(node.ctx, ast.Store):
                    name = node.id
                if name is not None:
                    self.assertNotIn(name, taken, path.name)
                    self.assertFalse(name.startswith("_"), (path.name, name))

    def test_no_module_name_is_bound_twice(self):
        for path in files():
            tree = ast.parse(path.read_text())
            names = [node.name for node in tree.body if isinstance(node, (ast.FunctionDef, ast.ClassDef))]
            names += [node.targets[0].id for node in tree.body if isinstance(node, ast.Assign)]
            for node in tree.body:
                names += [alias.name for alias in node.names] if isinstance(node, ast.ImportFrom) else []
            self.assertEqual(len(names), len(set(names)), path.name)

    def test_plain_expressions(self):
        barred = (ast.GeneratorExp, ast.Div, ast.Yield, ast.Global, ast.Await, ast.AsyncFunctionDef)
        for path in files():
            for node in ast.walk(ast.parse(path.read_text())):
                self.assertNotIsInstance(node, barred, path.name)
                if isinstance(node, ast.Constant):
                    self.assertNotIsInstance(node.value, float, path.name)
                if isinstance(node, ast.Compare) and isinstance(node.ops[0], (ast.Is, ast.IsNot)):
                    self.assertIn(ast.unparse(node.comparators[0]), ("None", "True", "False"), path.name)
                if isinstance(node, ast.Attribute):
                    self.assertNotIn(node.attr, ("sort", "add", "discard"), path.name)

    def bound(self, module):
        """The names that a file defines itself."""
        tree = ast.parse((PACKAGE / (module.split(".")[1] + ".py")).read_text())
        made = {node.name for node in tree.body if isinstance(node, (ast.FunctionDef, ast.ClassDef))}
        return made | {node.targets[0].id for node in tree.body if isinstance(node, ast.Assign)}


if __name__ == "__main__":
    unittest.main()
