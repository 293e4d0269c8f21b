"""The package keeps to LANGUAGE.md, as far as its rows can be seen in the written program."""

import ast
import builtins
import pathlib
import re
import unittest

PACKAGE = pathlib.Path(__file__).resolve().parent.parent / "shutpairs"
FILES = sorted(path for path in PACKAGE.rglob("*.py"))

OWN_NAMES = set("""
    len range enumerate zip min max sum abs sorted reversed int str bool list tuple dict set frozenset isinstance
    ord repr any all divmod Exception ValueError TypeError KeyError IndexError LookupError ZeroDivisionError
    ArithmeticError OverflowError RuntimeError NotImplementedError AttributeError StopIteration
""".split())
OWN_METHODS = set("""
    append clear copy count endswith extend find get index insert isalnum isalpha isdigit islower isspace isupper
    items join keys ljust lower lstrip partition pop remove replace reverse rfind rjust rpartition rsplit rstrip
    setdefault split splitlines startswith strip update upper values zfill bit_length
""".split())
TWO_UNDERSCORES = {"__init__", "__eq__", "__repr__", "__str__", "__len__"}
WORDS_NOWHERE = re.compile(
    r"\b(type|typing|typing_extensions|enum|Enum|IntEnum|StrEnum|Flag|IntFlag|Generic|Protocol|ABC|ABCMeta|namedtuple"
    r"|NamedTuple|TypedDict|TYPE_CHECKING|abstractmethod)\b|dataclass|overload|contextmanager"
)
NODES = tuple(getattr(ast, name) for name in """
    Module ImportFrom alias FunctionDef ClassDef Lambda arguments arg
    Assign AugAssign If While For Return Break Continue Pass Raise Try ExceptHandler Expr
    Constant List Tuple Dict Set Name Attribute Subscript Slice Call keyword ListComp comprehension
    BinOp UnaryOp BoolOp Compare IfExp JoinedStr FormattedValue expr_context
    Add Sub Mult FloorDiv Mod Pow BitAnd BitOr BitXor LShift RShift UAdd USub Invert Not And Or cmpop
""".split())
NAMES_NOWHERE = set("""
    register mro elements open input version_info with_traceback add_note format format_map attrgetter breakpoint
    builtins compile copyright credits delattr dir eval exec exit gc getattr globals hasattr help id importlib
    license locals methodcaller os quit setattr super vars sys chr sort
""".split())
KEYWORDS = {
    "sorted": {"key", "reverse"}, "min": {"key", "default"}, "max": {"key", "default"},
    "sum": {"start"}, "enumerate": {"start"}, "zip": {"strict"},
}
WALKED_AT_ONCE = {"zip", "enumerate", "reversed", "range"}
WALKERS = {"list", "tuple", "dict", "sorted", "sum", "any", "all", "enumerate", "zip", "min", "max"}
TOP_NODES = (ast.ImportFrom, ast.FunctionDef, ast.ClassDef, ast.Assign)


def tree_of(path):
    return ast.parse(path.read_text(encoding="utf-8"))


def nodes_of(path, *kinds):
    return [node for node in ast.walk(tree_of(path)) if isinstance(node, kinds)]


DEFINED = {node.name for path in FILES for node in nodes_of(path, ast.FunctionDef)}


def is_docstring(node):
    return isinstance(node, ast.Expr) and isinstance(node.value, ast.Constant) and isinstance(node.value.value, str)


def names_bound(tree):
    bound = []
    for node in tree.body:
        if isinstance(node, (ast.FunctionDef, ast.ClassDef)):
            bound.append(node.name)
        elif isinstance(node, ast.ImportFrom):
            bound.extend(alias.asname or alias.name for alias in node.names)
        elif isinstance(node, ast.Assign):
            bound.extend(target.id for target in node.targets)
    return bound


class Language(unittest.TestCase):
    def each(self, check, *kinds):
        for path in FILES:
            for node in nodes_of(path, *kinds):
                with self.subTest(file=path.name, line=getattr(node, "lineno", None)):
                    check(node)

    def test_files(self):
        self.assertIn(PACKAGE / "__init__.py", FILES)
        for path in PACKAGE.rglob("*"):
            if "__pycache__" not in path.parts:
                self.assertRegex(path.name, r"^[a-z0-9_]+\.py$")
                self.assertNotIn(path.stem, dir(builtins))
                self.assertNotRegex(path.stem, r"^(test.*|site|conftest|sitecustomize|usercustomize)$")

    def test_signs_and_sizes(self):
        for path in FILES:
            text = path.read_text(encoding="utf-8")
            self.assertRegex(text, r"\A[\n -~]*\Z", path.name)
            self.assertNotRegex(text, WORDS_NOWHERE, path.name)
            rows = text.split("\n")
            self.assertLessEqual(len(rows), 400, path.name)
            self.assertLessEqual(max(map(len, rows)), 120, path.name)

    def test_functions(self):
        self.each(self.check_functions, ast.FunctionDef)

    def check_functions(self, node):
        self.assertLessEqual(node.end_lineno - node.lineno + 1, 40)
        self.assertEqual(node.decorator_list, [])
        given = node.args
        self.assertFalse(given.vararg or given.kwarg or given.kwonlyargs or given.posonlyargs)

    def test_classes(self):
        self.each(self.check_classes, ast.ClassDef)

    def check_classes(self, node):
        self.assertLessEqual(len(node.bases), 1)
        self.assertEqual(node.keywords + node.decorator_list, [])
        for part in node.body:
            self.assertIsInstance(part, (ast.FunctionDef, ast.Pass))

    def test_top_of_a_module(self):
        for path in FILES:
            tree = tree_of(path)
            for place, node in enumerate(tree.body):
                if place > 0 or not is_docstring(node):
                    self.assertIsInstance(node, TOP_NODES, path.name)
            bound = names_bound(tree)
            self.assertEqual(len(bound), len(set(bound)), path.name)

    def test_imports(self):
        self.each(self.check_imports, ast.ImportFrom)

    def check_imports(self, node):
        self.assertEqual(node.level, 0)
        self.assertRegex(node.module, r"^shutpairs\.[a-z_]+$")
        source = tree_of(PACKAGE / (node.module.split(".")[1] + ".py"))
        defined = [part.name for part in source.body if isinstance(part, (ast.FunctionDef, ast.ClassDef))]
        assigned = [part.targets[0].id for part in source.body if isinstance(part, ast.Assign)]
        for alias in node.names:
            self.assertIn(alias.name, defined + assigned)

    def test_no_two_files_draw_from_one_another(self):
        drawn = {path.stem: {node.module.split(".")[1] for node in nodes_of(path, ast.ImportFrom)} for path in FILES}
        while drawn:
            free = [name for name, sources in drawn.items() if not sources & set(drawn)]
            self.assertTrue(free, drawn)
            for name in free:
                drawn.pop(name)

    def test_statements_and_expressions(self):
        self.each(self.check_statements_and_expressions, ast.AST)

    def check_statements_and_expressions(self, node):
        self.assertIsInstance(node, NODES)
        if isinstance(node, ast.Constant):
            self.assertIsInstance(node.value, (int, str, bool, None.__class__))
        if isinstance(node, ast.Expr) and not is_docstring(node):
            self.assertIsInstance(node.value, ast.Call)
        if isinstance(node, ast.Assign):
            self.assertEqual(len(node.targets), 1)
        if isinstance(node, (ast.For, ast.While)):
            self.assertEqual(node.orelse, [])
        if isinstance(node, ast.Try):
            self.assertEqual(node.finalbody, [])
        if isinstance(node, ast.ListComp):
            self.assertEqual(len(node.generators), 1)
            self.assertLessEqual(len(node.generators[0].ifs), 1)

    def test_is_beside_none_and_truths_alone(self):
        self.each(self.check_is_beside_none_and_truths_alone, ast.Compare)

    def check_is_beside_none_and_truths_alone(self, node):
        for sign, right in zip(node.ops, node.comparators):
            if isinstance(sign, (ast.Is, ast.IsNot)):
                self.assertIsInstance(right, ast.Constant)
                self.assertIn(right.value, (None, True, False))

    def test_names(self):
        self.each(self.check_names, ast.Name, ast.arg, ast.FunctionDef, ast.ClassDef)

    def check_names(self, node):
        name = getattr(node, "id", None) or getattr(node, "arg", None) or node.name
        if name not in TWO_UNDERSCORES:
            self.assertRegex(name, r"^[A-Za-z][A-Za-z0-9_]*$")
        if isinstance(node, ast.Name) and isinstance(node.ctx, ast.Load):
            self.assertTrue(name in OWN_NAMES or name not in dir(builtins), name)
        else:
            self.assertNotIn(name, dir(builtins))

    def test_methods_that_are_called(self):
        self.each(self.check_method_called, ast.Call)

    def check_method_called(self, node):
        if isinstance(node.func, ast.Attribute):
            self.assertIn(node.func.attr, OWN_METHODS | TWO_UNDERSCORES | DEFINED)

    def test_names_that_are_not_used(self):
        self.each(self.check_name_not_used, ast.Name, ast.Attribute, ast.arg, ast.FunctionDef, ast.ClassDef)

    def check_name_not_used(self, node):
        names = [getattr(node, field, None) for field in ("id", "attr", "arg", "name")]
        self.assertEqual(NAMES_NOWHERE & set(names), set())

    def test_no_local_is_called_like_a_class_or_an_import(self):
        for path in FILES:
            taken = [node.name for node in nodes_of(path, ast.ClassDef)]
            for node in nodes_of(path, ast.ImportFrom):
                taken.extend(alias.asname or alias.name for alias in node.names)
            given = [node.arg for node in nodes_of(path, ast.arg)]
            stored = [node.id for node in nodes_of(path, ast.Name) if isinstance(node.ctx, ast.Store)]
            self.assertEqual(set(taken) & set(given + stored), set(), path.name)

    def test_no_name_is_a_method_and_a_value(self):
        methods, values = set(), set()
        for path in FILES:
            for node in nodes_of(path, ast.ClassDef):
                methods.update(part.name for part in node.body if isinstance(part, ast.FunctionDef))
            for node in nodes_of(path, ast.Attribute):
                if isinstance(node.ctx, ast.Store):
                    values.add(node.attr)
        self.assertEqual(methods & values, set())

    def test_keywords(self):
        self.each(self.check_keywords, ast.Call)

    def check_keywords(self, node):
        if node.keywords:
            self.assertIsInstance(node.func, ast.Name)
            self.assertLessEqual({given.arg for given in node.keywords}, KEYWORDS.get(node.func.id, set()))

    def test_walked_at_once(self):
        for path in FILES:
            walked = [node.iter for node in nodes_of(path, ast.For, ast.comprehension)]
            for node in nodes_of(path, ast.Call):
                if isinstance(node.func, ast.Name) and node.func.id in WALKERS:
                    walked.extend(node.args)
            places = {(node.lineno, node.col_offset) for node in walked}
            for node in nodes_of(path, ast.Call):
                if isinstance(node.func, ast.Name) and node.func.id in WALKED_AT_ONCE:
                    self.assertIn((node.lineno, node.col_offset), places, path.name)

    def test_values_at_the_top(self):
        for path in FILES:
            above = set()
            for node in tree_of(path).body:
                if isinstance(node, ast.FunctionDef):
                    above.add(node.name)
                if isinstance(node, ast.Assign):
                    with self.subTest(file=path.name, line=node.lineno):
                        self.assertIsInstance(node.targets[0], ast.Name)
                        self.check_value_at_the_top(node.value, above, (ast.List, ast.Tuple, ast.Dict))

    def check_value_at_the_top(self, value, above, holders):
        if isinstance(value, ast.Name):
            self.assertIn(value.id, above)
        elif isinstance(value, holders):
            within = value.keys + value.values if isinstance(value, ast.Dict) else value.elts
            for part in within:
                self.check_value_at_the_top(part, above, (ast.Tuple,))
        else:
            self.assertIsInstance(value, ast.Constant)

    def test_lists_and_dicts_of_the_top_are_only_read(self):
        for path in FILES:
            assigned = [node for node in tree_of(path).body if isinstance(node, ast.Assign)]
            kept = {node.targets[0].id for node in assigned if isinstance(node.value, (ast.List, ast.Dict))}
            read = set()
            for node in nodes_of(path, ast.Subscript, ast.Compare):
                if isinstance(node, ast.Compare):
                    read.update((part.lineno, part.col_offset) for part in node.comparators)
                elif isinstance(node.ctx, ast.Load):
                    read.add((node.value.lineno, node.value.col_offset))
            for node in nodes_of(path, ast.Name):
                if node.id in kept and isinstance(node.ctx, ast.Load):
                    self.assertIn((node.lineno, node.col_offset), read, path.name)

    def test_errors_that_are_taken(self):
        self.each(self.check_error_taken, ast.ExceptHandler)

    def check_error_taken(self, node):
        self.assertIsInstance(node.type, ast.Name)
        self.assertNotIn(node.type.id, ("Exception", "TypeError", "ValueError", "LookupError", "IndexError"))

    def test_no_annotations(self):
        for path in FILES:
            self.assertEqual([node for node in nodes_of(path, ast.arg) if node.annotation], [], path.name)
            self.assertEqual([node for node in nodes_of(path, ast.FunctionDef) if node.returns], [], path.name)

    def test_sets_stand_within_len_or_sorted(self):
        for path in FILES:
            self.assertEqual(nodes_of(path, ast.Set), [], path.name)
            within = set()
            for node in nodes_of(path, ast.Call):
                if isinstance(node.func, ast.Name) and node.func.id in ("len", "sorted") and not node.keywords:
                    within.update((part.lineno, part.col_offset) for part in node.args)
            for node in nodes_of(path, ast.Call):
                if isinstance(node.func, ast.Name) and node.func.id in ("set", "frozenset"):
                    self.assertIn((node.lineno, node.col_offset), within, path.name)

    def test_powers_and_texts(self):
        self.each(self.check_powers_and_texts, ast.BinOp, ast.Constant)

    def check_powers_and_texts(self, node):
        if isinstance(node, ast.BinOp) and isinstance(node.op, ast.Pow):
            self.assertIsInstance(node.right, ast.Constant)
            self.assertIn(node.right.value, range(65))
        if isinstance(node, ast.Constant) and isinstance(node.value, str):
            self.assertNotIn("%", node.value)


if __name__ == "__main__":
    unittest.main()
