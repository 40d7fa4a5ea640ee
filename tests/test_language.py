"""The package's files keep to the small part of Python they are to be written in."""

import ast
import builtins
import pathlib
import re
import unittest

PACKAGE = pathlib.Path(__file__).resolve().parent.parent / "packedreadings"

STATEMENTS = (ast.Assign, ast.AugAssign, ast.If, ast.While, ast.For, ast.Return, ast.Break, ast.Continue, ast.Pass,
              ast.Raise, ast.Try, ast.Expr, ast.FunctionDef, ast.ClassDef, ast.ImportFrom)
WRONG_EXPRESSIONS = (ast.SetComp, ast.DictComp, ast.GeneratorExp, ast.NamedExpr, ast.Starred, ast.Yield,
                     ast.YieldFrom, ast.Await, ast.Div, ast.MatMult, ast.Set)
OWN_NAMES = """len range enumerate zip min max sum abs sorted reversed int str bool list tuple dict set frozenset
    isinstance ord repr any all divmod Exception ValueError TypeError KeyError IndexError LookupError
    ZeroDivisionError ArithmeticError OverflowError RuntimeError NotImplementedError AttributeError
    StopIteration""".split()
METHODS = """append clear copy count endswith extend find get index insert isalnum isalpha isdigit islower isspace
    isupper items join keys ljust lower lstrip partition pop remove replace reverse rfind rjust rpartition rsplit
    rstrip setdefault split splitlines startswith strip update upper values zfill bit_length""".split()
WRONG_NAMES = """register mro elements open input version_info with_traceback add_note attrgetter breakpoint builtins
    compile copyright credits delattr dir eval exec exit gc getattr globals hasattr help id importlib license locals
    methodcaller os quit setattr super vars sys print chr""".split()
WRONG_WORDS = """type typing typing_extensions enum Enum IntEnum StrEnum Flag IntFlag Generic Protocol ABC ABCMeta
    namedtuple NamedTuple TypedDict TYPE_CHECKING abstractmethod""".split()
WRONG_FILES = "test tests testing site conftest sitecustomize usercustomize".split() + dir(builtins)


def sources():
    return {path.stem: path.read_text(encoding="utf-8") for path in sorted(PACKAGE.glob("*.py"))}


def trees():
    return {stem: ast.parse(text) for stem, text in sources().items()}


def nodes():
    return [(stem, node) for stem, tree in trees().items() for node in ast.walk(tree)]


def top_names(tree):
    names = [node.name for node in tree.body if isinstance(node, (ast.FunctionDef, ast.ClassDef))]
    return names + [node.targets[0].id for node in tree.body if isinstance(node, ast.Assign)]


def bound_within(tree):
    """The parameters and locals of all functions of a file."""
    stored = [n.id for n in ast.walk(tree) if isinstance(n, ast.Name) and isinstance(n.ctx, ast.Store)]
    return [n for n in stored if n not in top_names(tree)] + [n.arg for n in ast.walk(tree) if isinstance(n, ast.arg)]


class Language(unittest.TestCase):
    def test_files(self):
        for path in PACKAGE.iterdir():
            if path.name == "__pycache__":
                continue
            self.assertRegex(path.name, r"\A(__init__|[a-z][a-z0-9_]*)\.py\Z")
            self.assertNotIn(path.stem, WRONG_FILES)
        self.assertTrue((PACKAGE / "__init__.py").is_file())
        self.assertTrue((PACKAGE / "archive.py").is_file())

    def test_sizes_and_signs(self):
        for stem, text in sources().items():
            lines = text.split("\n")
            self.assertLessEqual(len(lines), 400, stem)
            for number, line in enumerate(lines):
                self.assertLessEqual(len(line), 120, (stem, number))
                self.assertRegex(line, r"\A[ -~]*\Z", (stem, number))
        for stem, node in nodes():
            if isinstance(node, ast.FunctionDef):
                self.assertLessEqual(node.end_lineno - node.lineno + 1, 40, (stem, node.name))

    def test_words(self):
        for stem, text in sources().items():
            words = re.findall(r"\w+", text)
            self.assertEqual([w for w in words if w in WRONG_WORDS], [], stem)
            self.assertIsNone(re.search("dataclass|overload|contextmanager", text), stem)

    def test_imports(self):
        files = trees()
        drawn = {}
        for stem, tree in files.items():
            drawn[stem] = []
            for node in ast.walk(tree):
                if not isinstance(node, (ast.Import, ast.ImportFrom)):
                    continue
                self.assertIsInstance(node, ast.ImportFrom, stem)
                self.assertIn(node, tree.body, stem)
                self.assertEqual(node.level, 0, stem)
                self.assertTrue(node.module.startswith("packedreadings."), stem)
                source = node.module.split(".", 1)[1]
                drawn[stem].append(source)
                for name in node.names:
                    self.assertIsNone(name.asname, stem)
                    self.assertIn(name.name, top_names(files[source]), stem)
        while drawn:
            free = [stem for stem in drawn if not [s for s in drawn[stem] if s in drawn]]
            self.assertNotEqual(free, [], "files draw from one another")
            drawn = {stem: drawn[stem] for stem in drawn if stem not in free}

    def test_statements_and_expressions(self):
        for stem, node in nodes():
            where = (stem, getattr(node, "lineno", 0))
            if isinstance(node, ast.stmt):
                self.assertIsInstance(node, STATEMENTS, where)
            self.assertNotIsInstance(node, WRONG_EXPRESSIONS, where)
            if isinstance(node, ast.Assign):
                self.assertEqual(len(node.targets), 1, where)
                self.assertNotIsInstance(node.targets[0], (ast.Tuple, ast.List), where)
            if isinstance(node, (ast.For, ast.While)):
                self.assertEqual(node.orelse, [], where)
            if isinstance(node, ast.ListComp):
                self.assertEqual(len(node.generators), 1, where)
                self.assertLessEqual(len(node.generators[0].ifs), 1, where)
            if isinstance(node, ast.Constant):
                self.assertIn(type(node.value), (int, str, bool, type(None)), where)
            if isinstance(node, (ast.FunctionDef, ast.ClassDef)):
                self.assertEqual(node.decorator_list, [], where)
            if isinstance(node, ast.arguments):
                self.assertEqual([node.vararg, node.kwarg, node.kwonlyargs, node.posonlyargs], [None, None, [], []])

    def test_classes_and_errors(self):
        classes = [node for stem, node in nodes() if isinstance(node, ast.ClassDef)]
        errors = [node.name for node in classes if [base.id for base in node.bases] == ["Exception"]]
        for node in classes:
            self.assertTrue(node.name in errors or node.bases == [], node.name)
            self.assertIsNotNone(ast.get_docstring(node), node.name)
            for inner in node.body[1:]:
                self.assertIsInstance(inner, ast.FunctionDef, node.name)
        for stem, node in nodes():
            where = (stem, getattr(node, "lineno", 0))
            if isinstance(node, ast.Try):
                self.assertEqual(node.finalbody, [], where)
            if isinstance(node, ast.ExceptHandler):
                self.assertIsInstance(node.type, ast.Name, where)
                self.assertIn(node.type.id, errors, where)
            if isinstance(node, ast.Raise):
                self.assertIsInstance(node.exc, ast.Call, where)
                self.assertIn(node.exc.func.id, errors, where)
            if isinstance(node, ast.Compare):
                self.assertEqual([op for op in node.ops if isinstance(op, (ast.Is, ast.IsNot))], [], where)
            if isinstance(node, ast.BinOp):
                self.assertNotIsInstance(node.op, ast.Pow, where)

    def test_the_top_of_each_file(self):
        for stem, tree in trees().items():
            self.assertIsNotNone(ast.get_docstring(tree), stem)
            for node in tree.body[1:]:
                self.assertIsInstance(node, (ast.ImportFrom, ast.FunctionDef, ast.ClassDef, ast.Assign), stem)
                if isinstance(node, ast.Assign):
                    ast.literal_eval(node.value)
            self.assertEqual(len(top_names(tree)), len(set(top_names(tree))), stem)
        self.assertEqual(len(trees()["__init__"].body), 1)

    def test_names(self):
        methods = [n.name for s, c in nodes() if isinstance(c, ast.ClassDef) for n in c.body
                   if isinstance(n, ast.FunctionDef)]
        kept = [n.attr for s, n in nodes() if isinstance(n, ast.Attribute) and isinstance(n.ctx, ast.Store)]
        self.assertEqual(set(methods) & set(kept), set())
        for name in methods + kept:
            self.assertTrue(name == "__init__" or not any(hasattr(v, name) for v in ("", 0, [], {}, b"")), name)
        for stem, node in nodes():
            if isinstance(node, ast.Name):
                self.assertRegex(node.id, r"\A[A-Za-z][A-Za-z0-9_]*\Z", stem)
                self.assertNotIn(node.id, WRONG_NAMES, stem)
                if hasattr(builtins, node.id):
                    self.assertIn(node.id, OWN_NAMES, stem)
            if isinstance(node, ast.Attribute):
                self.assertIn(node.attr, METHODS + methods + kept, stem)

    def test_names_bound_within_functions(self):
        for stem, tree in trees().items():
            taken = [n.name for node in tree.body if isinstance(node, ast.ImportFrom) for n in node.names]
            taken += [node.name for node in tree.body if isinstance(node, ast.ClassDef)]
            for name in bound_within(tree):
                self.assertNotIn(name, taken, stem)
                self.assertFalse(hasattr(builtins, name), (stem, name))


if __name__ == "__main__":
    unittest.main()
