"""What can be seen at a glance of the rules that the package's files keep to (LANGUAGE.md)."""

import ast
import builtins
import pathlib
import re
import unittest

PACKAGE = pathlib.Path(__file__).resolve().parent.parent / "eitherboth"
FILES = sorted(path for path in PACKAGE.rglob("*") if path.is_file() and path.parent.name != "__pycache__")
BUILTINS = set((
    "len range enumerate zip min max sum abs sorted reversed int str bool bytes list tuple dict set isinstance ord "
    "repr any all divmod Exception ValueError TypeError KeyError IndexError LookupError ZeroDivisionError "
    "ArithmeticError OverflowError RuntimeError NotImplementedError AttributeError StopIteration NotImplemented super "
    "property staticmethod classmethod"
).split())
METHODS = set((
    "append clear copy count endswith extend find get index insert isalnum isalpha isdigit islower isspace isupper "
    "items join keys ljust lower lstrip partition pop remove replace reverse rfind rjust rpartition rsplit rstrip "
    "setdefault split splitlines startswith strip update upper values zfill bit_length add discard sort isascii "
    "isdecimal removeprefix removesuffix"
).split())
BARRED_WORDS = set((
    "type typing typing_extensions enum Enum IntEnum StrEnum Flag IntFlag Generic Protocol ABC ABCMeta namedtuple "
    "NamedTuple TypedDict TYPE_CHECKING abstractmethod"
).split())
BARRED_NODES = (
    ast.Global, ast.AsyncFunctionDef, ast.AsyncFor, ast.AsyncWith, ast.Await, ast.Div, ast.Import, ast.MatMult,
)


def trees():
    return [(path, ast.parse(path.read_text())) for path in FILES]


def nodes(kind):
    return [(path, node) for path, tree in trees() for node in ast.walk(tree) if isinstance(node, kind)]


def parents():
    return [
        (path, node, inner) for path, tree in trees() for node in ast.walk(tree) for inner in ast.iter_child_nodes(node)
    ]


def called_name(node):
    """The name of the function, or of the method, that a call calls, None of any other node."""
    if not isinstance(node, ast.Call):
        return None
    return getattr(node.func, "id", None) or getattr(node.func, "attr", None)


def own_methods():
    return {inner.name for path, node in nodes(ast.ClassDef) for inner in node.body if hasattr(inner, "name")}


class LanguageTest(unittest.TestCase):
    def test_files(self):
        self.assertIn(PACKAGE / "__init__.py", FILES)
        self.assertLessEqual(len(FILES), 100)
        for path in FILES:
            self.assertRegex(path.name, r"\A[a-z][a-z0-9_]*\.py\Z|\A__(init|main)__\.py\Z")

    def test_signs_and_sizes(self):
        for path in FILES:
            text = path.read_text()
            self.assertRegex(text, r"\A[ -~\n]*\Z", path.name)
            self.assertLessEqual(len(text.splitlines()), 400, path.name)
            self.assertLessEqual(max(len(line) for line in text.splitlines()), 120, path.name)
        for path, node in nodes(ast.FunctionDef):
            self.assertLessEqual(node.end_lineno - node.lineno + 1, 40, f"{path.name} {node.name}")

    def test_barred_words(self):
        for path in FILES:
            text = path.read_text()
            self.assertEqual(set(re.findall(r"\w+", text)) & BARRED_WORDS, set(), path.name)
            self.assertIsNone(re.search("dataclass|overload|contextmanager", text), path.name)

    def test_imports_name_the_file_that_defines_the_name(self):
        for path, node in nodes(ast.ImportFrom):
            if node.module == "__future__":
                continue
            self.assertEqual(node.level, 0, path.name)
            self.assertRegex(node.module, r"\Aeitherboth\.[a-z0-9_]+\Z", path.name)
            tree = ast.parse((PACKAGE / (node.module.split(".")[1] + ".py")).read_text())
            defined = {inner.name for inner in tree.body if isinstance(inner, (ast.FunctionDef, ast.ClassDef))}
            for inner in tree.body:
                if isinstance(inner, ast.Assign):
                    defined.update(target.id for target in inner.targets)
            self.assertLessEqual({alias.name for alias in node.names}, defined, path.name)

    def test_statements(self):
        for path, node in nodes(BARRED_NODES):
            self.fail(f"{path.name}: {ast.dump(node)}")

    def test_names(self):
        for path, node in nodes(ast.Name):
            where = f"{path.name} line {node.lineno}: {node.id}"
            self.assertFalse(node.id.startswith("_"), where)
            if hasattr(builtins, node.id):
                self.assertIn(node.id, BUILTINS, where)
                self.assertIsInstance(node.ctx, ast.Load, where)
        for path, node in nodes(ast.arg):
            self.assertFalse(hasattr(builtins, node.arg) or node.arg.startswith("_"), f"{path.name}: {node.arg}")

    def test_inner_names_are_no_names_of_classes_and_imports(self):
        for path, tree in trees():
            taken = {node.name for node in tree.body if isinstance(node, ast.ClassDef)}
            for node in tree.body:
                if isinstance(node, ast.ImportFrom):
                    taken.update(alias.asname or alias.name for alias in node.names)
            for node in ast.walk(tree):
                if isinstance(node, ast.arg):
                    self.assertNotIn(node.arg, taken, f"{path.name} line {node.lineno}")
                if isinstance(node, ast.Name) and not isinstance(node.ctx, ast.Load):
                    self.assertNotIn(node.id, taken, f"{path.name} line {node.lineno}")

    def test_no_name_is_a_method_and_an_attribute(self):
        stored = {node.attr for path, node in nodes(ast.Attribute) if isinstance(node.ctx, ast.Store)}
        self.assertEqual(own_methods() & stored, set())
        for path, node in nodes(ast.Attribute):
            self.assertIn(node.attr, stored | own_methods() | METHODS, f"{path.name} line {node.lineno}")

    def test_sets_are_not_iterated(self):
        for path, node in nodes((ast.For, ast.comprehension)):
            made = isinstance(node.iter, (ast.Set, ast.SetComp))
            called = isinstance(node.iter, ast.Call) and isinstance(node.iter.func, ast.Name)
            self.assertFalse(made or (called and node.iter.func.id in ("set", "frozenset")), path.name)

    def test_no_file_imports_from_one_that_imports_from_it(self):
        sources = {path.stem: set() for path in FILES}
        for path, node in nodes(ast.ImportFrom):
            sources[path.stem].update(node.module.split(".")[1:2])
        for name in sources:
            reached, waiting = set(), list(sources[name])
            while waiting:
                other = waiting.pop()
                if other not in reached:
                    reached.add(other)
                    waiting.extend(sources[other])
            self.assertNotIn(name, reached)

    def test_called_methods(self):
        known = METHODS | own_methods()
        for path, node in nodes(ast.Call):
            if isinstance(node.func, ast.Attribute):
                self.assertIn(node.func.attr, known, f"{path.name} line {node.lineno}")

    def test_is_stands_beside_none_and_truths_only(self):
        for path, node in nodes(ast.Compare):
            for sign, right in zip(node.ops, node.comparators):
                if isinstance(sign, (ast.Is, ast.IsNot)):
                    plain = isinstance(right, ast.Constant) and right.value in (None, True, False)
                    self.assertTrue(plain, f"{path.name} line {node.lineno}")

    def test_constants(self):
        for path, node in nodes(ast.Constant):
            where = f"{path.name} line {node.lineno}"
            self.assertNotIsInstance(node.value, (float, complex), where)
            if isinstance(node.value, str):
                self.assertNotIn("%", node.value, where)

    def test_module_level(self):
        for path, tree in trees():
            bound = [alias.asname or alias.name for node in tree.body if isinstance(node, ast.ImportFrom)
                     for alias in node.names]
            for at, node in enumerate(tree.body):
                if isinstance(node, ast.Expr):
                    self.assertTrue(at == 0 and isinstance(node.value, ast.Constant), path.name)
                elif isinstance(node, ast.Assign):
                    bound += [target.id for target in node.targets]
                    self.assertEqual(len(node.targets), 1, path.name)
                    for inner in ast.walk(node.value):
                        self.assertIsInstance(inner, (ast.Constant, ast.Tuple, ast.Dict, ast.Name, ast.Load), path.name)
                elif isinstance(node, (ast.FunctionDef, ast.ClassDef)):
                    bound.append(node.name)
                else:
                    self.assertIsInstance(node, ast.ImportFrom, path.name)
            self.assertEqual(len(bound), len(set(bound)), path.name)

    def test_functions(self):
        for path, node in nodes(ast.FunctionDef):
            where = f"{path.name} {node.name}"
            self.assertEqual(node.decorator_list, [], where)
            self.assertEqual(node.args.posonlyargs + node.args.kwonlyargs + node.args.defaults, [], where)
            self.assertIsNone(node.args.vararg or node.args.kwarg or node.returns, where)
            for inner in ast.walk(node):
                self.assertFalse(isinstance(inner, (ast.FunctionDef, ast.Lambda)) and inner is not node, where)
        for path, node in nodes((ast.Lambda, ast.Yield, ast.With, ast.Match, ast.NamedExpr, ast.Delete, ast.AnnAssign)):
            self.fail(f"{path.name} line {node.lineno}: not in use here, so its rules are not looked at")

    def test_generator_expressions_stand_in_calls(self):
        heads = "list tuple dict sorted sum min max any all join".split()
        for path, node, inner in parents():
            if isinstance(inner, ast.GeneratorExp):
                self.assertIn(called_name(node), heads, f"{path.name} line {inner.lineno}")
                self.assertEqual(len(node.args) + len(node.keywords), 1, f"{path.name} line {inner.lineno}")

    def test_stars_stand_over_names(self):
        for path, node, inner in parents():
            if isinstance(inner, ast.Starred):
                where = f"{path.name} line {inner.lineno}"
                self.assertIsInstance(inner.value, (ast.Name, ast.Attribute), where)
                self.assertIsInstance(node, (ast.Tuple, ast.List, ast.Call), where)

    def test_sets_stand_in_sorted_and_len(self):
        for path, node, inner in parents():
            if isinstance(inner, (ast.Set, ast.SetComp)) or called_name(inner) == "set":
                self.assertIn(called_name(node), ("sorted", "len"), f"{path.name} line {inner.lineno}")
                self.assertEqual(node.keywords, [], f"{path.name} line {inner.lineno}")
            self.assertNotEqual(called_name(inner), "frozenset", path.name)

    def test_ranges_and_the_like_are_iterated_on_the_spot(self):
        lazy = "zip enumerate reversed range items keys values".split()
        heads = "list tuple dict sorted sum any all enumerate zip min max".split()
        for path, node, inner in parents():
            if called_name(inner) in lazy:
                looped = isinstance(node, (ast.For, ast.comprehension)) and node.iter is inner
                self.assertTrue(looped or called_name(node) in heads, f"{path.name} line {inner.lineno}")

    def test_keywords(self):
        for path, node in nodes(ast.keyword):
            self.assertIn(node.arg, ("key", "reverse", "default", "start", "strict"), path.name)
        for path, node in nodes(ast.Call):
            if node.keywords:
                self.assertIn(called_name(node), ("sorted", "min", "max"), f"{path.name} line {node.lineno}")

    def test_raised_and_caught(self):
        own = {node.name for path, node in nodes(ast.ClassDef) if path.name == "errors.py"}
        for path, node in nodes(ast.Raise):
            self.assertIsInstance(node.exc, ast.Call, f"{path.name} line {node.lineno}")
            self.assertIn(node.exc.func.id, own, f"{path.name} line {node.lineno}")
        for path, node in nodes(ast.ExceptHandler):
            self.assertIn(node.type.id, own, f"{path.name} line {node.lineno}")

    def test_second_arguments_of_isinstance(self):
        for path, node in nodes(ast.Call):
            if called_name(node) == "isinstance":
                kinds = node.args[1].elts if isinstance(node.args[1], ast.Tuple) else [node.args[1]]
                for kind in kinds:
                    self.assertIn(kind.id, ("int", "str", "bool", "list", "tuple", "dict"), path.name)

    def test_classes_are_called_or_stand_above_another(self):
        classes = {node.name for path, node in nodes(ast.ClassDef)}
        for path, node, inner in parents():
            if isinstance(inner, ast.Name) and inner.id in classes:
                called = isinstance(node, ast.Call) and node.func is inner
                where = f"{path.name} line {inner.lineno}"
                self.assertTrue(called or isinstance(node, (ast.ClassDef, ast.ExceptHandler)), where)

    def test_double_underscore_methods(self):
        for name in own_methods():
            self.assertTrue(name == "__init__" or not name.startswith("_"), name)

    def test_escapes_and_powers(self):
        for path in FILES:
            self.assertIsNone(re.search(r"\\(?![nt\\'\"])", path.read_text()), path.name)
        for path, node in nodes(ast.Pow):
            self.fail(path.name)

    def test_no_package_file_has_a_barred_name(self):
        for path in FILES:
            barred = {*dir(builtins), "test", "tests", "testing", "site", "conftest"} - {"__init__"}
            self.assertNotIn(path.stem, barred)

    def test_what_a_loop_goes_through_is_not_changed_in_it(self):
        changing = "append clear extend insert pop remove reverse setdefault update sort".split()
        for path, node in nodes(ast.For):
            through = {ast.dump(inner) for inner in ast.walk(node.iter) if isinstance(inner, (ast.Name, ast.Attribute))}
            if called_name(node.iter) in ("list", "sorted"):
                continue
            for inner in [deep for row in node.body for deep in ast.walk(row)]:
                where = f"{path.name} line {node.lineno}"
                if called_name(inner) in changing and isinstance(inner.func, ast.Attribute):
                    self.assertNotIn(ast.dump(inner.func.value), through, where)
                if isinstance(inner, ast.Subscript) and not isinstance(inner.ctx, ast.Load):
                    self.assertNotIn(ast.dump(inner.value), through, where)


if __name__ == "__main__":
    unittest.main()
