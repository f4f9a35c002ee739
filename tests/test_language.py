"""The rules of ../shared/LANGUAGE.md that a look at the files can tell, upon the package's own files."""

import ast
import builtins
import pathlib
import re
import unittest

PACKAGE = pathlib.Path(__file__).resolve().parent.parent / "rowmill"
FILES = sorted(PACKAGE.rglob("*.py"))
TREES = {path: ast.parse(path.read_text()) for path in FILES}

OWN_NAMES = set("""len range enumerate zip min max sum abs sorted reversed int str bool list tuple dict set frozenset
isinstance ord repr any all divmod Exception ValueError TypeError KeyError IndexError LookupError ZeroDivisionError
ArithmeticError OverflowError RuntimeError NotImplementedError AttributeError StopIteration""".split())
OWN_METHODS = set("""append clear copy count endswith extend find get index insert isalnum isalpha isdigit islower
isspace isupper items join keys ljust lower lstrip partition pop remove replace reverse rfind rjust rpartition rsplit
rstrip setdefault split splitlines startswith strip update upper values zfill bit_length""".split())
DOUBLE = ("__init__", "__eq__", "__repr__", "__str__", "__len__")
NODES = (
    ast.Module, ast.ImportFrom, ast.alias, ast.FunctionDef, ast.arguments, ast.arg, ast.Lambda, ast.ClassDef,
    ast.Assign, ast.AugAssign, ast.If, ast.While, ast.For, ast.Return, ast.Break, ast.Continue, ast.Pass, ast.Raise,
    ast.Try, ast.ExceptHandler, ast.Expr, ast.Constant, ast.List, ast.Tuple, ast.Dict, ast.Set, ast.BinOp, ast.UnaryOp,
    ast.BoolOp, ast.Compare, ast.IfExp, ast.Call, ast.keyword, ast.Attribute, ast.Subscript, ast.Slice, ast.ListComp,
    ast.comprehension, ast.JoinedStr, ast.FormattedValue, ast.Name, ast.expr_context, ast.operator, ast.unaryop,
    ast.boolop, ast.cmpop,
)
NEVER_WORDS = re.compile(
    r"\b(type|typing|typing_extensions|enum|Enum|IntEnum|StrEnum|Flag|IntFlag|Generic|Protocol|ABC|ABCMeta|namedtuple"
    r"|NamedTuple|TypedDict|TYPE_CHECKING|abstractmethod)\b|dataclass|overload|contextmanager")
KEYWORDS = {
    "sorted": ("key", "reverse"), "min": ("key", "default"), "max": ("key", "default"), "sum": ("start",),
    "enumerate": ("start",), "zip": ("strict",),
}
WALKED = ("zip", "enumerate", "reversed", "range")
WALKED_METHODS = ("items", "keys", "values")
WALKERS = ("list", "tuple", "dict", "sorted", "sum", "any", "all", "enumerate", "zip", "min", "max")
NEVER_NAMES = ("register", "mro", "elements", "open", "input", "version_info", "with_traceback", "add_note", "format",
               "format_map")


def nodes(kind):
    return [(path, node) for path, tree in TREES.items() for node in ast.walk(tree) if isinstance(node, kind)]


def bound_names(tree):
    for node in ast.walk(tree):
        if isinstance(node, (ast.FunctionDef, ast.ClassDef)):
            yield node.name
        elif isinstance(node, ast.arg):
            yield node.arg
        elif isinstance(node, ast.Name) and isinstance(node.ctx, ast.Store):
            yield node.id
        elif isinstance(node, ast.Attribute) and isinstance(node.ctx, ast.Store):
            yield node.attr


def imported(tree):
    return [alias.asname or alias.name for node in ast.walk(tree) if isinstance(node, ast.ImportFrom)
            for alias in node.names]


def methods_and_values():
    methods, values = set(), set()
    for _, node in nodes(ast.ClassDef):
        for part in ast.walk(node):
            if isinstance(part, ast.FunctionDef):
                methods.add(part.name)
            elif isinstance(part, ast.Attribute) and isinstance(part.ctx, ast.Store):
                values.add(part.attr)
    return methods, values


def parents(tree):
    return {child: node for node in ast.walk(tree) for child in ast.iter_child_nodes(node)}


def own_classes():
    return {node.name for _, node in nodes(ast.ClassDef)}


def is_called(node, names):
    return isinstance(node, ast.Call) and isinstance(node.func, ast.Name) and node.func.id in names


def is_plain_value(node, functions):
    if isinstance(node, ast.Constant):
        return True
    if isinstance(node, ast.UnaryOp):
        return isinstance(node.operand, ast.Constant)
    if isinstance(node, ast.Name):
        return node.id in functions
    if isinstance(node, (ast.List, ast.Tuple)):
        return all(is_plain_value(part, functions) for part in node.elts)
    if isinstance(node, ast.Dict):
        return all(is_plain_value(part, functions) for part in node.keys + node.values)
    return False


class Files(unittest.TestCase):
    def test_names_and_kinds(self):
        self.assertIn(PACKAGE / "__init__.py", FILES)
        for path in PACKAGE.rglob("*"):
            if "__pycache__" in path.parts or path.is_dir():
                continue
            self.assertRegex(path.name, r"^([a-z][a-z0-9_]*|__init__|__main__)\.py$", "L1, L14")
            self.assertFalse(path.name.startswith("test"), "L14")

    def test_signs_and_sizes(self):
        for path in FILES:
            text = path.read_text()
            self.assertRegex(text, r"\A[ -~\n]*\Z", "L14")
            self.assertLessEqual(text.count("\n"), 400, "L10")
            for line in text.split("\n"):
                self.assertLessEqual(len(line), 120, "L10")

    def test_size_of_functions(self):
        for path, node in nodes(ast.FunctionDef):
            self.assertLessEqual(node.end_lineno - node.lineno + 1, 40, f"L10 {path.name} {node.name}")

    def test_words_that_stand_nowhere(self):
        for path in FILES:
            self.assertIsNone(NEVER_WORDS.search(path.read_text()), f"L17 {path.name}")


class Forms(unittest.TestCase):
    def test_statements_and_expressions(self):
        for path, node in nodes(ast.AST):
            self.assertIsInstance(node, NODES, f"L6, L7 {path.name}:{getattr(node, 'lineno', '')}")
            self.assertNotIsInstance(node, (ast.Div, ast.MatMult), "L7")

    def test_constants(self):
        for path, node in nodes(ast.Constant):
            self.assertIn(type(node.value), (int, str, bool, type(None)), f"L7 {path.name}:{node.lineno}")
            if isinstance(node.value, str):
                self.assertNotIn("%", node.value, "L27")

    def test_imports(self):
        drawn = {}
        for path, node in nodes(ast.ImportFrom):
            self.assertEqual((node.level, node.module.split(".")[0]), (0, "rowmill"), f"L2 {path.name}")
            self.assertEqual(node.col_offset, 0, "L2")
            home = TREES[PACKAGE / (node.module.split(".")[1] + ".py")]
            for alias in node.names:
                self.assertIn(alias.name, set(bound_names(home)), f"L16 {path.name}")
            drawn.setdefault(path.stem, set()).add(node.module.split(".")[1])
        left = {path.stem for path in FILES}
        while left:
            free = {name for name in left if not drawn.get(name, set()) & left}
            self.assertTrue(free, f"L16 {sorted(left)} draw from one another")
            left -= free

    def test_powers_and_is(self):
        for path, node in nodes(ast.BinOp):
            if isinstance(node.op, ast.Pow):
                self.assertIsInstance(node.right, ast.Constant, f"L27 {path.name}:{node.lineno}")
        for path, node in nodes(ast.Compare):
            if isinstance(node.ops[0], (ast.Is, ast.IsNot)):
                beside = [side for side in (node.left, node.comparators[0]) if isinstance(side, ast.Constant)]
                self.assertTrue(beside and beside[0].value in (None, True, False), f"L20 {path.name}:{node.lineno}")

    def test_functions_and_classes(self):
        for path, node in nodes((ast.FunctionDef, ast.ClassDef)):
            self.assertEqual(node.decorator_list, [], f"L4, L5 {path.name}")
        for path, node in nodes(ast.arguments):
            extra = (node.vararg, node.kwarg, node.kwonlyargs, node.posonlyargs)
            self.assertEqual(extra, (None, None, [], []), f"L4 {path.name}")
        for path, node in nodes(ast.ClassDef):
            self.assertLessEqual(len(node.bases), 1, f"L5 {path.name}")
            for part in node.body:
                self.assertIsInstance(part, (ast.FunctionDef, ast.Pass, ast.Expr), f"L5 {path.name}:{part.lineno}")


    def test_the_top_of_a_module(self):
        for path, tree in TREES.items():
            functions = set()
            for node in tree.body:
                where = f"L3 {path.name}:{node.lineno}"
                self.assertIsInstance(
                    node, (ast.Expr, ast.ImportFrom, ast.FunctionDef, ast.ClassDef, ast.Assign), where)
                if isinstance(node, ast.FunctionDef):
                    functions.add(node.name)
                if isinstance(node, ast.Expr):
                    self.assertIsInstance(node.value, ast.Constant, where)
                if isinstance(node, ast.Assign):
                    self.assertTrue(is_plain_value(node.value, functions), where)

    def test_loops_and_tries(self):
        for path, node in nodes((ast.For, ast.While)):
            self.assertEqual(node.orelse, [], f"L6 {path.name}:{node.lineno}")
        for path, node in nodes(ast.Try):
            self.assertEqual(node.finalbody, [], f"L6 {path.name}:{node.lineno}")
            for handler in node.handlers:
                self.assertIsInstance(handler.type, ast.Name, f"L19 {path.name}:{node.lineno}")
                self.assertNotIn(handler.type.id, ("Exception", "TypeError"), f"L19 {path.name}:{node.lineno}")
        for path, node in nodes(ast.Assign):
            self.assertEqual(len(node.targets), 1, f"L6 {path.name}:{node.lineno}")

    def test_comprehensions_and_texts(self):
        for path, node in nodes(ast.ListComp):
            self.assertEqual(len(node.generators), 1, f"L7 {path.name}:{node.lineno}")
            self.assertLessEqual(len(node.generators[0].ifs), 1, f"L7 {path.name}:{node.lineno}")
        for path, node in nodes(ast.FormattedValue):
            self.assertIsInstance(node.value, ast.Name, f"L7 {path.name}:{node.lineno}")
            self.assertIsNone(node.format_spec, f"L7 {path.name}:{node.lineno}")

    def test_keywords(self):
        for path, node in nodes(ast.Call):
            used = [keyword.arg for keyword in node.keywords]
            self.assertNotIn(None, used, f"L7 {path.name}:{node.lineno}")
            if isinstance(node.func, ast.Name) and hasattr(builtins, node.func.id):
                self.assertLessEqual(set(used), set(KEYWORDS.get(node.func.id, ())), f"L22 {path.name}:{node.lineno}")
            if isinstance(node.func, ast.Attribute) and node.func.attr in OWN_METHODS:
                self.assertEqual(used, [], f"L22 {path.name}:{node.lineno}")

    def test_what_is_walked_at_once(self):
        for path, tree in TREES.items():
            above = parents(tree)
            for node in ast.walk(tree):
                method = isinstance(node, ast.Call) and isinstance(node.func, ast.Attribute)
                if is_called(node, WALKED) or method and node.func.attr in WALKED_METHODS:
                    over = above[node]
                    walked = isinstance(over, (ast.For, ast.comprehension)) and over.iter is node
                    first = is_called(over, WALKERS) and (over.args[0] is node or over.func.id == "zip")
                    self.assertTrue(walked or first, f"L23 {path.name}:{node.lineno}")

    def test_classes_are_not_handed_on(self):
        classes = own_classes()
        for path, tree in TREES.items():
            above = parents(tree)
            for node in ast.walk(tree):
                if not isinstance(node, ast.Name) or node.id not in classes:
                    continue
                over = above[node]
                if isinstance(over, ast.Tuple):
                    over = above[over]
                asked = is_called(over, ("isinstance",))
                called = isinstance(over, ast.Call) and over.func is node
                named = isinstance(over, (ast.ClassDef, ast.ExceptHandler))
                base = isinstance(over, ast.Attribute) and over.attr == "__init__"
                self.assertTrue(asked or called or named or base, f"L18 {path.name}:{node.lineno}")


class Names(unittest.TestCase):
    def test_names_of_locals(self):
        for path, tree in TREES.items():
            tops = [node.name for node in tree.body if isinstance(node, (ast.ClassDef, ast.FunctionDef))]
            tops += imported(tree)
            for function in ast.walk(tree):
                if not isinstance(function, ast.FunctionDef):
                    continue
                stored = [node.id for node in ast.walk(function)
                          if isinstance(node, ast.Name) and isinstance(node.ctx, ast.Store)]
                for name in stored + [node.arg for node in ast.walk(function) if isinstance(node, ast.arg)]:
                    self.assertNotIn(name, tops, f"L15 {path.name} {function.name}")
                    self.assertFalse(hasattr(builtins, name), f"L15 {path.name} {function.name} {name}")

    def test_methods_are_called_where_they_stand(self):
        methods, _ = methods_and_values()
        for path, tree in TREES.items():
            above = parents(tree)
            for node in ast.walk(tree):
                if isinstance(node, ast.Attribute) and node.attr in OWN_METHODS | methods:
                    over = above[node]
                    self.assertTrue(isinstance(over, ast.Call) and over.func is node, f"L25 {path.name}:{node.lineno}")

    def test_names_that_are_bound(self):
        for path, tree in TREES.items():
            tops = [node.name for node in tree.body if isinstance(node, ast.ClassDef)] + imported(tree)
            inner = [node.arg for node in ast.walk(tree) if isinstance(node, ast.arg)]
            for name in bound_names(tree):
                self.assertTrue(name in DOUBLE or not name.startswith("_"), f"L12 {path.name} {name}")
                self.assertNotIn(name, NEVER_NAMES, f"L17 {path.name}")
            for name in inner:
                self.assertNotIn(name, tops, f"L15 {path.name}")
                self.assertFalse(hasattr(builtins, name), f"L15 {path.name} {name}")

    def test_a_name_is_bound_once_at_the_top(self):
        for path, tree in TREES.items():
            tops = imported(tree)
            for node in tree.body:
                if isinstance(node, ast.Assign):
                    tops += [target.id for target in node.targets]
                elif isinstance(node, (ast.FunctionDef, ast.ClassDef)):
                    tops.append(node.name)
            self.assertEqual(len(tops), len(set(tops)), f"L15 {path.name}")

    def test_pythons_own_names(self):
        for path, node in nodes(ast.Name):
            if hasattr(builtins, node.id) and path.name != "__main__.py":
                self.assertIn(node.id, OWN_NAMES, f"L8, L17, L27 {path.name}:{node.lineno}")

    def test_methods_that_are_called(self):
        methods, values = methods_and_values()
        self.assertEqual(methods & values, set(), "L18")
        for path, node in nodes(ast.Attribute):
            self.assertIn(node.attr, OWN_METHODS | methods | values, f"L25 {path.name}:{node.lineno}")


if __name__ == "__main__":
    unittest.main()
