"""The package's own files keep to the small part of Python that the program is written in.

Only what can be seen at a glance is looked at here: files, sizes, signs, words, imports, statements and names.
"""

import ast
import builtins
import pathlib
import re
import unittest

PACKAGE = pathlib.Path(__file__).resolve().parent.parent / "origincert"
WORDS = ("type typing typing_extensions enum Enum IntEnum StrEnum Flag IntFlag Generic Protocol ABC ABCMeta "
         "namedtuple NamedTuple TypedDict TYPE_CHECKING abstractmethod").split()
PARTS_OF_WORDS = ("dataclass", "overload", "contextmanager")
BUILT_IN = ("len range enumerate zip min max sum abs sorted reversed int str bool list tuple dict isinstance ord repr "
            "any all divmod").split()
METHODS = ("append clear copy count endswith extend find get index insert isalnum isalpha isdigit islower isspace "
           "isupper items join keys ljust lower lstrip partition pop remove replace reverse rfind rjust rpartition "
           "rsplit rstrip setdefault split splitlines startswith strip update upper values zfill bit_length").split()
NEVER = "register mro elements open input version_info with_traceback add_note format format_map".split()
NODES = (
    ast.Module, ast.Expr, ast.Constant, ast.ImportFrom, ast.alias, ast.FunctionDef, ast.ClassDef, ast.arguments,
    ast.arg, ast.Assign, ast.AugAssign, ast.If, ast.While, ast.For, ast.Return, ast.Break, ast.Continue, ast.Pass,
    ast.Raise, ast.Try, ast.ExceptHandler, ast.JoinedStr, ast.FormattedValue, ast.Name, ast.List, ast.Tuple, ast.Dict,
    ast.BinOp, ast.UnaryOp, ast.BoolOp, ast.Compare, ast.IfExp, ast.Call, ast.Attribute, ast.Subscript, ast.Slice,
    ast.ListComp, ast.comprehension, ast.Lambda, ast.keyword, ast.operator, ast.unaryop, ast.boolop, ast.cmpop,
    ast.expr_context,
)
PYTHONS_OWN_VALUES = ("", 0, [], (), {}, set(), b"")


def sources():
    return sorted(path for path in PACKAGE.rglob("*") if path.is_file() and "__pycache__" not in path.parts)


def trees():
    return [(path.name, ast.parse(path.read_text(encoding="ascii"))) for path in sources()]


def nodes(kind):
    return [(name, node) for name, tree in trees() for node in ast.walk(tree) if isinstance(node, kind)]


def imported(tree):
    return [alias.name for node in tree.body if isinstance(node, ast.ImportFrom) for alias in node.names]


def bound_at_top(tree):
    targets = [node.targets[0].id for node in tree.body if isinstance(node, ast.Assign)]
    defs = [node.name for node in tree.body if isinstance(node, (ast.FunctionDef, ast.ClassDef))]
    return targets + defs + imported(tree)


class LanguageTest(unittest.TestCase):
    def test_files(self):
        self.assertIn(PACKAGE / "__init__.py", sources())
        for path in sources():
            self.assertRegex(path.name, r"^[a-z0-9_]+\.py$")
            self.assertEqual(path.parent, PACKAGE)

    def test_signs_sizes_and_words(self):
        for path in sources():
            text = path.read_bytes().decode("ascii")
            lines = text.split("\n")
            self.assertLessEqual(len(lines), 400, path)
            self.assertLessEqual(max(len(line) for line in lines), 120, path)
            self.assertTrue(all(sign == "\n" or " " <= sign <= "~" for sign in text), path)
            for word in re.findall(r"\w+", text):
                self.assertNotIn(word, WORDS, path)
                self.assertFalse([part for part in PARTS_OF_WORDS if part in word], path)

    def test_small_functions(self):
        for name, node in nodes(ast.FunctionDef):
            self.assertLessEqual(node.end_lineno - node.lineno + 1, 40, (name, node.name))
            self.assertFalse(node.decorator_list or node.args.vararg or node.args.kwarg or node.args.kwonlyargs)

    def test_statements_and_expressions(self):
        for name, node in nodes(ast.AST):
            self.assertIsInstance(node, NODES, (name, getattr(node, "lineno", None)))
            if isinstance(node, ast.Constant):
                self.assertIn(type(node.value), (int, str, bool, type(None)), name)
            if isinstance(node, ast.Assign):
                self.assertEqual(len(node.targets), 1, (name, node.lineno))
            if isinstance(node, (ast.For, ast.While)):
                self.assertEqual(node.orelse, [], (name, node.lineno))
            self.assertNotIsInstance(node, (ast.Div, ast.MatMult), name)

    def test_imports(self):
        drawn = {}
        for name, tree in trees():
            rows = [node for node in ast.walk(tree) if isinstance(node, ast.ImportFrom)]
            self.assertTrue(all(node in tree.body and node.level == 0 for node in rows))
            self.assertTrue(all(node.module.startswith("origincert.") for node in rows), name)
            drawn[name] = {node.module.removeprefix("origincert.") + ".py" for node in rows}
        self.assertEqual(drawn["__init__.py"], set())
        while drawn:
            ready = [name for name in drawn if not drawn[name] & set(drawn)]
            self.assertTrue(ready, "files draw from one another")
            drawn = {name: drawn[name] for name in drawn if name not in ready}

    def test_names(self):
        for name, tree in trees():
            top = bound_at_top(tree)
            self.assertEqual(len(top), len(set(top)), name)
            own = [node.name for node in tree.body if isinstance(node, ast.ClassDef)] + imported(tree)
            for node in ast.walk(tree):
                bound = node.arg if isinstance(node, ast.arg) else None
                if isinstance(node, ast.Name) and isinstance(node.ctx, ast.Store):
                    bound = node.id
                if bound:
                    self.assertNotIn(bound, own + dir(builtins), name)
                    self.assertFalse(bound.startswith("_"), (name, bound))

    def test_built_in_names(self):
        for name, node in nodes(ast.Name):
            if node.id in dir(builtins):
                self.assertIn(node.id, BUILT_IN, (name, node.lineno))
            self.assertNotIn(node.id, NEVER, (name, node.lineno))

    def test_attributes(self):
        pythons_own = {word for value in PYTHONS_OWN_VALUES for word in dir(value)}
        for name, node in nodes(ast.Attribute):
            self.assertNotIn(node.attr, NEVER, (name, node.lineno))
            if node.attr in pythons_own:
                self.assertIn(node.attr, METHODS, (name, node.lineno))
                self.assertIsInstance(node.ctx, ast.Load, (name, node.lineno))


if __name__ == "__main__":
    unittest.main()
