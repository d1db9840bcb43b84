"""The package's own files keep to the small part of Python that they are written in.

What can be seen in the syntax tree is asked here; what needs a reader stays with the reader.
"""

import ast
import builtins
import pathlib
import re
import unittest

PACKAGE = pathlib.Path(__file__).resolve().parent.parent / "linkpay"
FILES = sorted(path for path in PACKAGE.rglob("*") if "__pycache__" not in path.parts)

# L6 and L7
STATEMENTS = (ast.FunctionDef, ast.ClassDef, ast.ImportFrom, ast.Assign, ast.AugAssign, ast.If, ast.While, ast.For,
              ast.Return, ast.Break, ast.Continue, ast.Pass, ast.Raise, ast.Try, ast.Expr)
EXPRESSIONS = (ast.Constant, ast.Name, ast.List, ast.Tuple, ast.Dict, ast.Set, ast.BinOp, ast.UnaryOp, ast.BoolOp,
               ast.Compare, ast.IfExp, ast.Call, ast.Attribute, ast.Subscript, ast.Slice, ast.ListComp, ast.JoinedStr,
               ast.FormattedValue, ast.Lambda)

# L8
BUILT_IN = set("""len range enumerate zip min max sum abs sorted reversed int str bool list tuple dict set frozenset
    isinstance ord repr any all divmod Exception ValueError TypeError KeyError IndexError LookupError
    ZeroDivisionError ArithmeticError OverflowError RuntimeError NotImplementedError AttributeError
    StopIteration""".split())

# L25
METHODS = set("""append clear copy count endswith extend find get index insert isalnum isalpha isdigit islower isspace
    isupper items join keys ljust lower lstrip partition pop remove replace reverse rfind rjust rpartition rsplit
    rstrip setdefault split splitlines startswith strip update upper values zfill bit_length""".split())

# L17
WORDS = re.compile(r"\b(type|typing|typing_extensions|enum|Enum|IntEnum|StrEnum|Flag|IntFlag|Generic|Protocol|ABC"
                   r"|ABCMeta|namedtuple|NamedTuple|TypedDict|TYPE_CHECKING|abstractmethod)\b"
                   r"|dataclass|overload|contextmanager")


def trees():
    for path in FILES:
        if path.suffix == ".py":
            yield path, ast.parse(path.read_text(encoding="utf-8"))


def nodes(*kinds):
    for path, tree in trees():
        for node in ast.walk(tree):
            if isinstance(node, kinds):
                yield f"{path.name}:{getattr(node, 'lineno', 0)}", node


class Language(unittest.TestCase):
    def test_files(self):
        self.assertTrue((PACKAGE / "__init__.py").is_file())
        for path in FILES:
            self.assertRegex(path.name, r"\A(__init__|[a-z][a-z0-9_]*)\.py\Z")

    def test_signs_sizes_and_words(self):
        for path in FILES:
            text = path.read_text(encoding="utf-8")
            lines = text.splitlines()
            self.assertEqual(re.findall(r"[^ -~\n]", text), [], path)
            self.assertLessEqual(len(lines), 400, path)
            self.assertLessEqual(max(len(line) for line in lines), 120, path)
            self.assertIsNone(WORDS.search(text), path)

    def test_the_top_of_a_file(self):
        allowed = (ast.ImportFrom, ast.FunctionDef, ast.ClassDef, ast.Assign)
        for path, tree in trees():
            self.assertIsNotNone(ast.get_docstring(tree), path)
            for node in tree.body[1:]:
                self.assertIsInstance(node, allowed, path)
                if isinstance(node, ast.Assign):
                    ast.literal_eval(node.value)

    def test_imports(self):
        drawn = {}
        for path, tree in trees():
            found = [node for node in ast.walk(tree) if isinstance(node, ast.ImportFrom)]
            for node in found:
                self.assertEqual((node.level, node.module.split(".")[0]), (0, "linkpay"), path)
                self.assertNotIn("*", [alias.name for alias in node.names], path)
                self.assertIn(node, tree.body, path)
            drawn[path.stem] = {node.module.split(".")[-1] for node in found}
        self.assertEqual(drawn["__init__"], set())
        while drawn:
            free = [name for name in drawn if not drawn[name] & set(drawn)]
            self.assertTrue(free, f"files that draw from one another: {sorted(drawn)}")
            for name in free:
                del drawn[name]

    def test_statements_and_expressions(self):
        for place, node in nodes(ast.stmt):
            self.assertIsInstance(node, STATEMENTS, place)
        for place, node in nodes(ast.expr):
            self.assertIsInstance(node, EXPRESSIONS, place)
        for place, node in nodes(ast.Div, ast.Constant, ast.Assign, ast.Try, ast.For, ast.While):
            self.assertNotIsInstance(node, ast.Div, place)
            self.assertNotIsInstance(getattr(node, "value", None), (float, complex, bytes), place)
            self.assertLessEqual(len(getattr(node, "targets", [])), 1, place)
            self.assertEqual(getattr(node, "finalbody", []), [], place)
            if isinstance(node, (ast.For, ast.While)):
                self.assertEqual(node.orelse, [], place)

    def test_written_exponents(self):
        for place, node in nodes(ast.BinOp):
            if isinstance(node.op, ast.Pow):
                self.assertIsInstance(node.right, ast.Constant, place)
                self.assertIn(node.right.value, range(65), place)

    def test_texts(self):
        for place, node in nodes(ast.Constant):
            if isinstance(node.value, str):
                self.assertNotIn("%", node.value, place)
        for place, node in nodes(ast.FormattedValue):
            self.assertIsInstance(node.value, ast.Name, place)
            self.assertIsNone(node.format_spec, place)

    def test_functions(self):
        for place, node in nodes(ast.FunctionDef):
            asked = node.args
            self.assertLessEqual(node.end_lineno - node.lineno + 1, 40, place)
            self.assertEqual(node.decorator_list, [], place)
            self.assertEqual((asked.vararg, asked.kwarg), (None, None), place)
            self.assertEqual((asked.kwonlyargs, asked.posonlyargs), ([], []), place)

    def test_classes(self):
        for place, node in nodes(ast.ClassDef):
            self.assertLessEqual(len(node.bases), 1, place)
            self.assertEqual((node.decorator_list, node.keywords), ([], []), place)
            for part in node.body:
                self.assertIsInstance(part, (ast.FunctionDef, ast.Pass), place)

    def test_names(self):
        for place, node in nodes(ast.Name):
            self.assertFalse(node.id.startswith("_"), place)
            if hasattr(builtins, node.id):
                self.assertIn(node.id, BUILT_IN, place)
                self.assertIsInstance(node.ctx, ast.Load, place)
        for place, node in nodes(ast.arg):
            self.assertFalse(node.arg.startswith("_") or hasattr(builtins, node.arg), place)

    def test_each_name_has_one_meaning_in_its_file(self):
        for path, tree in trees():
            top = [alias.name for node in tree.body if isinstance(node, ast.ImportFrom) for alias in node.names]
            top += [node.name for node in tree.body if isinstance(node, (ast.FunctionDef, ast.ClassDef))]
            top += [node.targets[0].id for node in tree.body if isinstance(node, ast.Assign)]
            self.assertEqual(sorted(top), sorted(set(top)), path)
            within = [part for node in tree.body if isinstance(node, ast.FunctionDef) for part in ast.walk(node)]
            inner = {part.id for part in within if isinstance(part, ast.Name) and isinstance(part.ctx, ast.Store)}
            inner |= {part.arg for part in within if isinstance(part, ast.arg)}
            self.assertEqual(inner & set(top), set(), path)

    def test_methods(self):
        own = {node.name for place, node in nodes(ast.FunctionDef)}
        for place, node in nodes(ast.Call):
            if isinstance(node.func, ast.Attribute):
                self.assertIn(node.func.attr, METHODS | own, place)

    def test_is_stands_beside_none_true_and_false_alone(self):
        for place, node in nodes(ast.Compare):
            for op, right in zip(node.ops, node.comparators):
                if isinstance(op, (ast.Is, ast.IsNot)):
                    self.assertIsInstance(right, ast.Constant, place)
                    self.assertIn(right.value, (None, True, False), place)
