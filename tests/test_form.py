"""Those rules of the program's part of Python (../shared/LANGUAGE.md) that can be told from the files at a glance."""

import ast
import builtins
import pathlib
import re
import unittest

PACKAGE = pathlib.Path(__file__).resolve().parent.parent / "eitherbook"
FILES = sorted(path for path in PACKAGE.rglob("*") if path.is_file() and "__pycache__" not in path.parts)
TEXTS = [(path.name, path.read_text(encoding="utf-8")) for path in FILES]
OWN_NAMES = (
    "len range enumerate zip min max sum abs sorted reversed int str bool list tuple dict set frozenset isinstance "
    "ord repr any all divmod Exception ValueError TypeError KeyError IndexError LookupError ZeroDivisionError "
    "ArithmeticError OverflowError RuntimeError NotImplementedError StopIteration"
).split()
LEFT_OUT_WORDS = re.compile(
    r"\b(type|typing|typing_extensions|enum|Enum|IntEnum|StrEnum|Flag|IntFlag|Generic|Protocol|ABC|ABCMeta"
    r"|namedtuple|NamedTuple|TypedDict|TYPE_CHECKING|abstractmethod)\b|dataclass|overload|contextmanager"
)
LEFT_OUT_NODES = (
    ast.With, ast.Match, ast.Delete, ast.Global, ast.Nonlocal, ast.Assert, ast.Yield, ast.YieldFrom, ast.AsyncFor,
    ast.AsyncWith, ast.AsyncFunctionDef, ast.Await, ast.SetComp, ast.DictComp, ast.GeneratorExp, ast.NamedExpr,
    ast.Starred, ast.Div, ast.Import, ast.AnnAssign,
)


class Form(unittest.TestCase):
    def test_the_folder_holds_plain_files_alone(self):
        self.assertIn("__init__.py", [name for name, text in TEXTS])
        for name, text in TEXTS:
            self.assertRegex(name, r"^(__init__|[a-z][a-z0-9_]*)\.py$")

    def test_signs_and_size(self):
        for name, text in TEXTS:
            self.assertRegex(text, r"\A[ -~\n]*\Z", name)
            rows = text.split("\n")
            self.assertLessEqual(len(rows), 400, name)
            self.assertLessEqual(max(len(row) for row in rows), 120, name)

    def test_words_that_stand_nowhere(self):
        for name, text in TEXTS:
            self.assertIsNone(LEFT_OUT_WORDS.search(text), name)

    def test_imports_are_the_package_s_own(self):
        for name, text in TEXTS:
            for node in ast.walk(ast.parse(text)):
                if isinstance(node, ast.ImportFrom):
                    self.assertEqual(node.level, 0, name)
                    self.assertTrue(node.module.startswith("eitherbook."), (name, node.module))
                    self.assertNotIn("*", [alias.name for alias in node.names], name)

    def test_statements_and_expressions(self):
        for name, text in TEXTS:
            for node in ast.walk(ast.parse(text)):
                self.assertNotIsInstance(node, LEFT_OUT_NODES, name)
                if isinstance(node, (ast.For, ast.While)):
                    self.assertEqual(node.orelse, [], name)
                if isinstance(node, ast.Assign):
                    self.assertEqual(len(node.targets), 1, name)
                if isinstance(node, ast.FunctionDef):
                    self.assertEqual(node.decorator_list, [], name)
                    self.assertLessEqual(node.end_lineno - node.lineno + 1, 40, name)

    def test_texts(self):
        for name, text in TEXTS:
            for node in ast.walk(ast.parse(text)):
                if isinstance(node, ast.Constant) and isinstance(node.value, str):
                    self.assertNotIn("%", node.value, name)
                if isinstance(node, ast.FormattedValue):
                    self.assertIsInstance(node.value, ast.Name, name)
                    self.assertIn(node.conversion, (-1, ord("r")), name)
                    self.assertIsNone(node.format_spec, name)

    def test_no_name_is_a_method_and_a_value_of_an_object(self):
        methods, values = [], []
        for name, text in TEXTS:
            for node in ast.walk(ast.parse(text)):
                if isinstance(node, ast.ClassDef):
                    methods.extend(part.name for part in node.body if isinstance(part, ast.FunctionDef))
                if isinstance(node, ast.Attribute) and isinstance(node.ctx, ast.Store):
                    values.append(node.attr)
        self.assertEqual(sorted(set(methods) & set(values)), [])

    def test_no_file_draws_from_itself_in_whatever_many_steps(self):
        drawn = {}
        for name, text in TEXTS:
            own = "eitherbook." + name[:-len(".py")]
            drawn[own] = [node.module for node in ast.walk(ast.parse(text)) if isinstance(node, ast.ImportFrom)]
        while drawn:
            free = [own for own in drawn if not any(module in drawn for module in drawn[own])]
            self.assertNotEqual(free, [], drawn)
            for own in free:
                del drawn[own]

    def test_python_s_own_names(self):
        others = [name for name in dir(builtins) if name not in OWN_NAMES]
        for name, text in TEXTS:
            for node in ast.walk(ast.parse(text)):
                if isinstance(node, ast.Name):
                    self.assertNotIn(node.id, others, name)
                if isinstance(node, (ast.Name, ast.arg)):
                    word = node.id if isinstance(node, ast.Name) else node.arg
                    self.assertRegex(word, r"^[A-Za-z][A-Za-z0-9_]*$", name)


if __name__ == "__main__":
    unittest.main()
