"""The package keeps to the part of the language that is allowed, as far as its files alone can show."""

import ast
import builtins
import pathlib
import re
import unittest

PACKAGE = pathlib.Path(__file__).resolve().parent.parent / "laidcells"

STATEMENTS = (
    "FunctionDef ClassDef Return Assign AugAssign AnnAssign For While If Raise Try ImportFrom Import Expr Pass Break"
    " Continue ExceptHandler").split()
EXPRESSIONS = (
    "BoolOp BinOp UnaryOp Lambda IfExp Dict Set ListComp Compare Call FormattedValue JoinedStr Constant Attribute"
    " Subscript Name List Tuple Slice").split()
PARTS = "Module arguments arg keyword alias comprehension Load Store And Or".split()
BUILTINS = (
    "len range enumerate zip min max sum abs sorted reversed int str bool list tuple dict set frozenset isinstance ord"
    " repr any all divmod Exception ValueError TypeError KeyError IndexError LookupError ZeroDivisionError"
    " ArithmeticError OverflowError RuntimeError NotImplementedError AttributeError StopIteration").split()
METHODS = (
    "append clear copy count endswith extend find get index insert isalnum isalpha isdigit islower isspace isupper items"
    " join keys ljust lower lstrip partition pop remove replace reverse rfind rjust rpartition rsplit rstrip setdefault"
    " split splitlines startswith strip update upper values zfill bit_length").split()
KEYWORDS = {"sorted": ("key", "reverse"), "min": ("key", "default"), "max": ("key", "default"), "sum": ("start",),
            "enumerate": ("start",), "zip": ("strict",)}
DUNDERS = "__init__ __eq__ __repr__ __str__ __len__".split()
WORDS = (
    "type typing typing_extensions enum Enum IntEnum StrEnum Flag IntFlag Generic Protocol ABC ABCMeta namedtuple"
    " NamedTuple TypedDict TYPE_CHECKING abstractmethod").split()
WITHIN = "dataclass overload contextmanager".split()


def sources():
    return [(path, path.read_bytes().decode("utf-8")) for path in sorted(PACKAGE.rglob("*.py"))]


def trees():
    return [(path, ast.parse(text)) for path, text in sources()]


def nodes():
    return [(f"{path.name}:{getattr(node, 'lineno', 0)}", node) for path, tree in trees() for node in ast.walk(tree)]


def defined_in(path):
    body = ast.parse(path.read_text()).body
    defs = {node.name for node in body if isinstance(node, (ast.FunctionDef, ast.ClassDef))}
    return defs | {node.targets[0].id for node in body if isinstance(node, ast.Assign)}


class Files(unittest.TestCase):
    def test_nothing_but_plain_python_files_lies_in_it(self):
        found = [path for path in PACKAGE.rglob("*") if "__pycache__" not in path.parts]
        self.assertIn(PACKAGE / "errors.py", found)
        for path in found:
            if path.is_dir():
                self.assertTrue((path / "__init__.py").is_file(), path)
                self.assertRegex(path.name, r"\A[a-z][a-z0-9_]*\Z")
            else:
                self.assertRegex(path.name, r"\A([a-z][a-z0-9_]*|__init__|__main__)\.py\Z")
            self.assertFalse(path.stem in dir(builtins) or path.stem.startswith("test"), path)

    def test_signs_and_sizes(self):
        for path, text in sources():
            self.assertRegex(text, r"\A[ -~\n]*\Z", path)
            rows = text.splitlines()
            self.assertLessEqual(len(rows), 400, path)
            self.assertLessEqual(max([len(row) for row in rows], default=0), 120, path)

    def test_words_that_stand_nowhere(self):
        for path, text in sources():
            self.assertEqual(set(re.findall(r"\w+", text)) & set(WORDS), set(), path)
            self.assertEqual([word for word in WITHIN if word in text], [], path)


class Language(unittest.TestCase):
    def test_statements_and_expressions(self):
        for place, node in nodes():
            allowed = STATEMENTS + EXPRESSIONS + PARTS
            if not isinstance(node, (ast.operator, ast.unaryop, ast.cmpop)):
                self.assertIn(type(node).__name__, allowed, place)
            self.assertNotIsInstance(node, (ast.Div, ast.MatMult), place)
            self.assertFalse(getattr(node, "decorator_list", []), place)
            if isinstance(node, (ast.For, ast.While)):
                self.assertEqual(node.orelse, [], place)
            if isinstance(node, ast.Try):
                self.assertEqual(node.finalbody, [], place)
            if isinstance(node, ast.Assign):
                self.assertEqual(len(node.targets), 1, place)
            if isinstance(node, ast.Constant):
                self.assertIn(type(node.value), (int, str, bool, type(None)), place)
            if isinstance(node, ast.ListComp):
                self.assertEqual(len(node.generators), 1, place)
                self.assertLessEqual(len(node.generators[0].ifs), 1, place)
            if isinstance(node, ast.BinOp) and isinstance(node.op, ast.Pow):
                self.assertIsInstance(node.right, ast.Constant, place)

    def test_functions(self):
        for place, node in nodes():
            if isinstance(node, ast.FunctionDef):
                self.assertLessEqual(node.end_lineno - node.lineno + 1, 40, place)
            if isinstance(node, ast.arguments):
                self.assertFalse(node.vararg or node.kwarg or node.kwonlyargs or node.posonlyargs, place)

    def test_imports(self):
        for path, tree in trees():
            if path.name == "__main__.py":
                continue
            for node in ast.walk(tree):
                self.assertNotIsInstance(node, ast.Import, path)
                if isinstance(node, ast.ImportFrom):
                    self.assertIn(node, tree.body, path)
                    self.assertEqual((node.level, node.module.split(".")[0]), (0, "laidcells"), path)
                    source = (PACKAGE.parent / node.module.replace(".", "/")).with_suffix(".py")
                    self.assertLessEqual({name.name for name in node.names}, defined_in(source), path)

    def test_names(self):
        allowed = BUILTINS + ["print"]
        for place, node in nodes():
            if isinstance(node, ast.Name) and hasattr(builtins, node.id):
                self.assertIn(node.id, allowed, place)
                self.assertIsInstance(node.ctx, ast.Load, place)
            name = getattr(node, "id", None) or getattr(node, "arg", None) or getattr(node, "name", None)
            if isinstance(name, str) and name not in DUNDERS + ["__name__"]:
                self.assertRegex(name, r"\A[A-Za-z][A-Za-z0-9_]*\Z", place)
                if not isinstance(node, (ast.Name, ast.keyword)):
                    self.assertFalse(hasattr(builtins, name), place)

    def test_methods(self):
        own = DUNDERS[:1]
        for place, node in nodes():
            if isinstance(node, ast.ClassDef):
                own += [part.name for part in node.body if isinstance(part, ast.FunctionDef)]
        for place, node in nodes():
            if isinstance(node, ast.Call) and isinstance(node.func, ast.Attribute):
                self.assertIn(node.func.attr, METHODS + own, place)

    def test_texts(self):
        for place, node in nodes():
            if isinstance(node, ast.FormattedValue):
                self.assertIsInstance(node.value, ast.Name, place)
                self.assertIsNone(node.format_spec, place)
            if isinstance(node, ast.Constant) and isinstance(node.value, str):
                self.assertNotIn("%", node.value, place)

    def test_is_and_keywords(self):
        for place, node in nodes():
            if isinstance(node, ast.Compare) and any(isinstance(sign, (ast.Is, ast.IsNot)) for sign in node.ops):
                self.assertIn(getattr(node.comparators[0], "value", 0), (None, True, False), place)
            if isinstance(node, ast.Call):
                allowed = KEYWORDS.get(getattr(node.func, "id", ""), ())
                self.assertLessEqual({keyword.arg for keyword in node.keywords}, set(allowed), place)

    def test_sets_are_asked_on_the_spot(self):
        for place, node in nodes():
            for part in ast.iter_child_nodes(node):
                if isinstance(part, ast.Call) and getattr(part.func, "id", "") in ("set", "frozenset"):
                    asked = isinstance(node, ast.Call) and getattr(node.func, "id", "") in ("len", "sorted")
                    self.assertTrue(asked or isinstance(node, (ast.Compare, ast.BinOp)), place)

    def test_locals_are_called_like_no_import_and_no_class(self):
        for path, tree in trees():
            taken = {name.name for node in tree.body if isinstance(node, ast.ImportFrom) for name in node.names}
            taken |= {node.name for node in tree.body if isinstance(node, ast.ClassDef)}
            for node in ast.walk(tree):
                if isinstance(node, ast.arg):
                    self.assertNotIn(node.arg, taken, path)
                if isinstance(node, ast.Name) and isinstance(node.ctx, ast.Store):
                    self.assertNotIn(node.id, taken, path)


if __name__ == "__main__":
    unittest.main()
