"""The package keeps to the small part of Python it is written in: the rules that a walk through its files can see."""

import ast
import builtins
import pathlib
import re
import unittest

PACKAGE = pathlib.Path(__file__).resolve().parent.parent / "exactunits"
ALLOWED_NAMES = """len range enumerate zip min max sum abs sorted reversed int str bool list tuple dict set frozenset
    isinstance ord repr any all divmod Exception ValueError TypeError KeyError IndexError LookupError ZeroDivisionError
    ArithmeticError OverflowError RuntimeError NotImplementedError AttributeError StopIteration""".split()
ALLOWED_METHODS = """append clear copy count endswith extend find get index insert isalnum isalpha isdigit islower isspace
    isupper items join keys ljust lower lstrip partition pop remove replace reverse rfind rjust rpartition rsplit rstrip
    setdefault split splitlines startswith strip update upper values zfill bit_length""".split()
STATEMENTS = (
    ast.Assign, ast.AugAssign, ast.If, ast.While, ast.For, ast.Return, ast.Break, ast.Continue, ast.Pass, ast.Raise,
    ast.Try, ast.Expr, ast.FunctionDef, ast.ClassDef, ast.ImportFrom)
BANNED_WORDS = """type typing typing_extensions enum Enum IntEnum StrEnum Flag IntFlag Generic Protocol ABC ABCMeta
    namedtuple NamedTuple TypedDict TYPE_CHECKING abstractmethod""".split()
BANNED_NAMES = "register mro elements open input version_info with_traceback add_note format format_map chr".split()
BANNED_NODES = (
    ast.Div, ast.SetComp, ast.DictComp, ast.GeneratorExp, ast.NamedExpr, ast.Starred, ast.Set, ast.Await, ast.Yield,
    ast.AnnAssign, ast.Global, ast.Nonlocal, ast.Delete, ast.Assert, ast.With)
PYTHONS_OWN = set(dir("") + dir(1) + dir([]) + dir({}) + dir(set()) + dir(b"") + dir(()))
FREE_VALUES = "count index title find get join lower upper split strip copy add".split()


def files():
    return sorted(PACKAGE.glob("*.py"))


def trees():
    return [(path.name, ast.parse(path.read_text())) for path in files()]


def nodes(kind):
    return [(name, node) for name, tree in trees() for node in ast.walk(tree) if isinstance(node, kind)]


class Language(unittest.TestCase):
    def test_files(self):
        for path in PACKAGE.iterdir():
            self.assertTrue(re.fullmatch(r"[a-z0-9_]+\.py", path.name) or path.name == "__pycache__", path)
            self.assertFalse(hasattr(builtins, path.stem) and path.stem != "__init__", path)

    def test_lines(self):
        for path in files():
            text = path.read_text()
            lines = text.split("\n")
            self.assertLessEqual(len(lines), 400, path)
            self.assertTrue(all(len(line) <= 120 for line in lines), path)
            self.assertTrue(all(" " <= sign <= "~" or sign == "\n" for sign in text), path)
            for word in BANNED_WORDS:
                self.assertIsNone(re.search(r"\b%s\b" % word, text), (path, word))
            self.assertIsNone(re.search("dataclass|overload|contextmanager", text), path)

    def test_functions(self):
        for name, node in nodes(ast.FunctionDef):
            self.assertLessEqual(node.end_lineno - node.lineno + 1, 40, (name, node.name))
            arguments = node.args
            self.assertFalse(arguments.vararg or arguments.kwarg or arguments.kwonlyargs or arguments.posonlyargs)
            self.assertFalse(node.decorator_list or node.returns, (name, node.name))

    def test_statements(self):
        for name, node in nodes(ast.stmt):
            self.assertIsInstance(node, STATEMENTS, (name, node.lineno))
        for name, node in nodes(BANNED_NODES):
            self.fail((name, node))
        for name, node in nodes(ast.Assign):
            self.assertEqual(len(node.targets), 1, (name, node.lineno))
            self.assertNotIsInstance(node.targets[0], ast.Tuple, (name, node.lineno))
        for name, node in nodes((ast.While, ast.For)):
            self.assertFalse(node.orelse, (name, node.lineno))
        for name, node in nodes(ast.Try):
            self.assertFalse(node.finalbody, (name, node.lineno))

    def test_imports(self):
        drawn = {}
        for name, tree in trees():
            drawn[name] = []
            for node in ast.walk(tree):
                if isinstance(node, ast.ImportFrom):
                    self.assertEqual(node.level, 0, name)
                    self.assertTrue(node.module.startswith("exactunits."), (name, node.module))
                    self.assertTrue(all(alias.name != "*" and alias.asname is None for alias in node.names), name)
                    drawn[name].append(node.module.split(".")[1] + ".py")
        while drawn:
            free = [name for name in drawn if not any(other in drawn for other in drawn[name])]
            self.assertTrue(free, "files draw from one another: %s" % drawn)
            for name in free:
                drawn.pop(name)

    def test_imported_names_are_used_and_not_bound_again(self):
        for name, tree in trees():
            imported = [alias.name for node in tree.body if isinstance(node, ast.ImportFrom) for alias in node.names]
            loaded = [node.id for node in ast.walk(tree) if isinstance(node, ast.Name) and isinstance(node.ctx, ast.Load)]
            bound = [node.id for node in ast.walk(tree) if isinstance(node, ast.Name) and isinstance(node.ctx, ast.Store)]
            bound += [node.arg for node in ast.walk(tree) if isinstance(node, ast.arg)]
            self.assertEqual([word for word in imported if word not in loaded], [], name)
            self.assertEqual([word for word in imported if word in bound], [], name)
            self.assertEqual([word for word in bound if hasattr(builtins, word)], [], name)

    def test_names(self):
        for name, node in nodes(ast.Name):
            self.assertFalse(node.id.startswith("_") or node.id in BANNED_NAMES, (name, node.id))
            if hasattr(builtins, node.id):
                self.assertIn(node.id, ALLOWED_NAMES, (name, node.lineno))

    def test_methods_and_values(self):
        methods, values = set(), set()
        for name, node in nodes(ast.ClassDef):
            own = [part.name for part in node.body if isinstance(part, ast.FunctionDef)]
            self.assertEqual(len(own), len(set(own)), node.name)
            self.assertLessEqual(len(node.bases), 1, node.name)
            methods.update(own)
        for name, node in nodes(ast.Attribute):
            if isinstance(node.ctx, ast.Store):
                values.add(node.attr)
            self.assertNotIn(node.attr, BANNED_NAMES, (name, node.lineno))
        self.assertEqual(methods & values, set())
        self.assertEqual({method for method in methods if method in PYTHONS_OWN} - {"__init__"}, set())
        self.assertEqual({value for value in values if value in PYTHONS_OWN and value not in FREE_VALUES}, set())
        for name, node in nodes(ast.Attribute):
            if node.attr not in methods | values:
                self.assertIn(node.attr, ALLOWED_METHODS, (name, node.lineno))

    def test_numbers_and_texts(self):
        for name, node in nodes(ast.Constant):
            self.assertIsInstance(node.value, (int, str, type(None)), (name, node.lineno))
            if isinstance(node.value, str):
                self.assertNotIn("%", node.value, (name, node.lineno))
        for name, node in nodes(ast.BinOp):
            if isinstance(node.op, ast.Pow):
                self.assertIsInstance(node.right, ast.Constant, (name, node.lineno))
        for name, node in nodes(ast.Compare):
            if any(isinstance(sign, (ast.Is, ast.IsNot)) for sign in node.ops):
                self.assertIsInstance(node.comparators[0], ast.Constant, (name, node.lineno))

    def test_the_top_of_files_is_plain(self):
        for name, tree in trees():
            bound = []
            for node in tree.body:
                if isinstance(node, ast.Assign):
                    bound.append(node.targets[0].id)
                    ast.literal_eval(node.value)
                elif isinstance(node, (ast.FunctionDef, ast.ClassDef)):
                    bound.append(node.name)
                    self.assertIsNotNone(ast.get_docstring(node), (name, node.name))
                else:
                    self.assertIsInstance(node, (ast.ImportFrom, ast.Expr), name)
            self.assertEqual(len(bound), len(set(bound)), name)


if __name__ == "__main__":
    unittest.main()
