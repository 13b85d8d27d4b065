"""The rules of the language that can be seen in the package's files, as far as they are plain to check."""

import ast
import builtins
import pathlib
import re
import unittest

PACKAGE = pathlib.Path(__file__).resolve().parent.parent / "bagwood"
FILES = sorted(PACKAGE.rglob("*.py"))

NODES = """Module FunctionDef ClassDef Return Assign AugAssign For While If Raise Try ImportFrom Expr Pass Break
Continue BoolOp BinOp UnaryOp Lambda IfExp Dict ListComp Compare Call FormattedValue JoinedStr Constant Attribute
Subscript Name List Tuple Set Slice Load Store And Or Add Sub Mult Mod Pow LShift RShift BitOr BitXor BitAnd FloorDiv
Invert Not USub Eq NotEq Lt LtE Gt GtE Is IsNot In NotIn comprehension ExceptHandler arguments arg keyword
alias""".split()

BUILTINS = """len range enumerate zip min max sum abs sorted reversed int str bool list tuple dict set frozenset
isinstance ord repr any all divmod Exception ValueError TypeError KeyError IndexError LookupError ZeroDivisionError
ArithmeticError OverflowError RuntimeError NotImplementedError AttributeError StopIteration""".split()

METHODS = """append clear copy count endswith extend find get index insert isalnum isalpha isdigit islower isspace
isupper items join keys ljust lower lstrip partition pop remove replace reverse rfind rjust rpartition rsplit rstrip
setdefault split splitlines startswith strip update upper values zfill bit_length""".split()

WORDS = """type typing typing_extensions enum Enum IntEnum StrEnum Flag IntFlag Generic Protocol ABC ABCMeta
namedtuple NamedTuple TypedDict TYPE_CHECKING abstractmethod""".split()

DOUBLE = ["__init__", "__eq__", "__repr__", "__str__", "__len__"]


def tree_of(path):
    return ast.parse(path.read_text(encoding="utf-8"))


def own_names(kind):
    return [node.name for path in FILES for node in ast.walk(tree_of(path)) if isinstance(node, kind)]


def top_names(path):
    """What a file defines at its top: functions, classes, and names that are given a value."""
    body = tree_of(path).body
    return [one.name for one in body if hasattr(one, "name")] + [
        one.targets[0].id for one in body if isinstance(one, ast.Assign)]


class Language(unittest.TestCase):
    def each_node(self):
        for path in FILES:
            for node in ast.walk(tree_of(path)):
                yield path, node, f"{path.name}:{getattr(node, 'lineno', 0)}"

    def test_files(self):
        self.assertIn(PACKAGE / "__init__.py", FILES)
        for path in PACKAGE.rglob("*"):
            if "__pycache__" not in path.parts:
                self.assertRegex(path.name, r"\A(__init__|__main__|[a-z][a-z0-9_]*)\.py\Z")
                self.assertNotIn(path.stem, dir(builtins))

    def test_signs_and_sizes(self):
        for path in FILES:
            text = path.read_bytes().decode("utf-8")
            self.assertRegex(text, r"\A[ -~\n]*\Z", path)
            lines = text.split("\n")
            self.assertLessEqual(len(lines), 401, path)
            self.assertLessEqual(max(len(line) for line in lines), 120, path)

    def test_short_functions(self):
        for path, node, spot in self.each_node():
            if isinstance(node, ast.FunctionDef):
                self.assertLessEqual(node.end_lineno - node.lineno + 1, 40, spot)

    def test_words(self):
        for path in FILES:
            text = path.read_text(encoding="utf-8")
            for word in WORDS:
                self.assertIsNone(re.search(rf"\b{word}\b", text), (path, word))
            for word in ("dataclass", "overload", "contextmanager"):
                self.assertNotIn(word, text, path)

    def test_only_these_forms(self):
        for path, node, spot in self.each_node():
            self.assertIn(node.__class__.__name__, NODES, spot)
            if isinstance(node, ast.Expr):
                self.assertIsInstance(node.value, (ast.Call, ast.Constant), spot)
            if isinstance(node, ast.Constant):
                self.assertIn(node.value.__class__, (int, str, bool, None.__class__), spot)
            if isinstance(node, (ast.FunctionDef, ast.ClassDef)):
                self.assertEqual(node.decorator_list, [], spot)
            if isinstance(node, ast.arguments):
                self.assertFalse(node.vararg or node.kwarg or node.kwonlyargs or node.posonlyargs, spot)
            if isinstance(node, (ast.For, ast.While)):
                self.assertEqual(node.orelse, [], spot)
            if isinstance(node, ast.Assign):
                self.assertEqual(len(node.targets), 1, spot)
            if isinstance(node, ast.ListComp):
                self.assertEqual(len(node.generators), 1, spot)
                self.assertLessEqual(len(node.generators[0].ifs), 1, spot)
            if isinstance(node, ast.Try):
                self.assertEqual(node.finalbody, [], spot)
            if isinstance(node, ast.Raise):
                self.assertIsInstance(node.exc, ast.Call, spot)

    def test_top_of_a_file(self):
        allowed = (ast.ImportFrom, ast.FunctionDef, ast.ClassDef, ast.Assign)
        for path in FILES:
            tree = tree_of(path)
            self.assertIsNotNone(ast.get_docstring(tree), path)
            for node in tree.body[1:]:
                self.assertIsInstance(node, allowed, f"{path.name}:{node.lineno}")

    def test_imports(self):
        drawn = {}
        for path in FILES:
            drawn[path.stem] = []
            for node in tree_of(path).body:
                if isinstance(node, ast.ImportFrom):
                    package, dot, module = node.module.partition(".")
                    self.assertEqual((package, node.level), ("bagwood", 0), path)
                    drawn[path.stem].append(module)
                    for alias in node.names:
                        self.assertIn(alias.name, top_names(PACKAGE / f"{module}.py"), path)
        while drawn:
            free = [stem for stem, modules in drawn.items() if not any(module in drawn for module in modules)]
            self.assertNotEqual(free, [], f"files that draw from one another: {sorted(drawn)}")
            drawn = {stem: modules for stem, modules in drawn.items() if stem not in free}

    def test_names(self):
        for path, node, spot in self.each_node():
            bound = []
            if isinstance(node, ast.Name):
                if isinstance(node.ctx, ast.Store):
                    bound.append(node.id)
                elif node.id in dir(builtins):
                    self.assertIn(node.id, BUILTINS, spot)
            if isinstance(node, (ast.FunctionDef, ast.ClassDef)) and node.name not in DOUBLE:
                bound.append(node.name)
            if isinstance(node, ast.arg):
                bound.append(node.arg)
            for name in bound:
                self.assertRegex(name, r"\A[A-Za-z][A-Za-z0-9_]*\Z", spot)
                self.assertNotIn(name, dir(builtins), spot)

    def test_no_local_is_called_like_a_class_or_an_import(self):
        for path in FILES:
            tree = tree_of(path)
            taken = [node.name for node in tree.body if isinstance(node, ast.ClassDef)]
            taken += [alias.asname or alias.name for node in tree.body if isinstance(node, ast.ImportFrom)
                      for alias in node.names]
            for node in ast.walk(tree):
                if isinstance(node, ast.arg):
                    self.assertNotIn(node.arg, taken, f"{path.name}:{node.lineno}")
                if isinstance(node, ast.Name) and isinstance(node.ctx, ast.Store):
                    self.assertNotIn(node.id, taken, f"{path.name}:{node.lineno}")

    def test_methods(self):
        own = own_names(ast.FunctionDef)
        for path, node, spot in self.each_node():
            if isinstance(node, ast.Call) and isinstance(node.func, ast.Attribute):
                self.assertIn(node.func.attr, METHODS + own, spot)

    def test_each_name_of_a_file_once(self):
        for path in FILES:
            names = top_names(path)
            self.assertEqual(len(set(names)), len(names), path)

    def test_no_name_is_a_method_and_a_value(self):
        classes = [node for path, node, spot in self.each_node() if isinstance(node, ast.ClassDef)]
        methods = [one.name for node in classes for one in node.body if isinstance(one, ast.FunctionDef)]
        stored = [node.attr for path, node, spot in self.each_node()
                  if isinstance(node, ast.Attribute) and isinstance(node.ctx, ast.Store)]
        self.assertEqual(sorted(set(methods) & set(stored)), [])
        for node in classes:
            own = [one.name for one in node.body if isinstance(one, ast.FunctionDef)]
            self.assertEqual(len(set(own)), len(own), node.name)
            self.assertLessEqual(len(node.bases), 1, node.name)
        # None of Python's own values has a method or a value that is called so.
        python = [name for kind in (str, int, list, dict, set, bytes, tuple) for name in dir(kind)]
        for name in methods + stored:
            self.assertTrue(name == "__init__" or name not in python, name)

    def test_sets_and_walks_stand_where_they_may(self):
        walks = ("zip", "enumerate", "reversed", "range")
        homes = ("list", "tuple", "dict", "sorted", "sum", "any", "all", "enumerate", "zip", "min", "max")
        for path in FILES:
            good = []
            for node in ast.walk(tree_of(path)):
                if isinstance(node, (ast.For, ast.comprehension)):
                    good.append(ast.dump(node.iter))
                if isinstance(node, ast.Call) and isinstance(node.func, ast.Name) and node.func.id in homes and node.args:
                    good.append(ast.dump(node.args[0]))
            for node in ast.walk(tree_of(path)):
                called = node.func if isinstance(node, ast.Call) else None
                if isinstance(called, ast.Name) and called.id in walks or (
                        isinstance(called, ast.Attribute) and called.attr in ("items", "keys", "values")):
                    self.assertIn(ast.dump(node), good, f"{path.name}:{node.lineno}")

    def test_is_stands_beside_none_and_truths(self):
        for path, node, spot in self.each_node():
            if isinstance(node, ast.Compare) and any(isinstance(op, (ast.Is, ast.IsNot)) for op in node.ops):
                sides = [node.left] + node.comparators
                plain = [one for one in sides if isinstance(one, ast.Constant) and one.value in (None, True, False)]
                self.assertNotEqual(plain, [], spot)

    def test_no_power_but_a_written_one(self):
        for path, node, spot in self.each_node():
            if isinstance(node, ast.BinOp) and isinstance(node.op, ast.Pow):
                self.assertIsInstance(node.right, ast.Constant, spot)


if __name__ == "__main__":
    unittest.main()
