"""The package keeps to the rules of ../shared/LANGUAGE.md, as far as a walk over its code can see."""

import ast
import builtins
import os
import re
import unittest

PACKAGE = os.path.join(os.path.dirname(os.path.dirname(os.path.abspath(__file__))), "relationladder")

NODES = tuple(getattr(ast, name) for name in """
    Module FunctionDef arguments arg ClassDef Return Assign AugAssign For While If Raise Try ExceptHandler Break
    Continue Pass Expr BoolOp BinOp UnaryOp Lambda IfExp Dict Set ListComp comprehension Compare Call keyword JoinedStr
    FormattedValue Constant Attribute Subscript Name List Tuple Slice ImportFrom alias boolop operator unaryop cmpop
    expr_context
""".split())

BUILTINS = """
    len range enumerate zip min max sum abs sorted reversed int str bool list tuple dict set isinstance ord repr any all
    divmod frozenset Exception ValueError TypeError KeyError IndexError LookupError ZeroDivisionError ArithmeticError
    OverflowError RuntimeError NotImplementedError AttributeError StopIteration
""".split()

METHODS = """
    append clear copy count endswith extend find get index insert isalnum isalpha isdigit islower isspace isupper items
    join keys ljust lower lstrip partition pop remove replace reverse rfind rjust rpartition rsplit rstrip setdefault
    split splitlines startswith strip update upper values zfill bit_length
""".split()

WALKED = ("zip", "enumerate", "reversed", "range")
WALKERS = ("list", "tuple", "dict", "sorted", "sum", "any", "all", "enumerate", "zip", "min", "max")

WORDS_NOWHERE = re.compile(
    r"\b(type|typing|typing_extensions|enum|Enum|IntEnum|StrEnum|Flag|IntFlag|Generic|Protocol|ABC|ABCMeta|namedtuple"
    r"|NamedTuple|TypedDict|TYPE_CHECKING|abstractmethod)\b|dataclass|overload|contextmanager"
)

NAMES_NOWHERE = """
    register mro elements open input version_info with_traceback add_note attrgetter breakpoint builtins compile
    copyright credits delattr dir eval exec exit gc getattr globals hasattr help id importlib license locals
    methodcaller os quit setattr super vars sys format format_map chr
""".split()


def own_attributes():
    return {name for kind in (str, int, list, tuple, dict, set, bytes) for name in dir(kind)}


def files():
    found = {}
    for name in sorted(os.listdir(PACKAGE)):
        if name != "__pycache__":
            with open(os.path.join(PACKAGE, name), encoding="ascii", newline="") as handle:
                found[name] = handle.read()
    return found


def bound_at_top(tree):
    names = []
    for node in tree.body:
        if isinstance(node, (ast.FunctionDef, ast.ClassDef)):
            names.append(node.name)
        elif isinstance(node, ast.Assign):
            names.append(node.targets[0].id)
        elif isinstance(node, ast.ImportFrom):
            names.extend(alias.name for alias in node.names)
    return names


def parents(tree):
    return {child: node for node in ast.walk(tree) for child in ast.iter_child_nodes(node)}


class Language(unittest.TestCase):
    def setUp(self):
        self.texts = files()
        self.trees = {name: ast.parse(text) for name, text in self.texts.items()}

    def walk(self, *kinds):
        for name, tree in self.trees.items():
            for node in ast.walk(tree):
                if isinstance(node, kinds):
                    yield f"{name}:{getattr(node, 'lineno', 0)}", node

    def test_files_lines_and_signs(self):
        for name, text in self.texts.items():
            self.assertRegex(name, r"^([a-z][a-z0-9_]*|__init__|__main__)\.py$")
            self.assertRegex(text, r"\A[ -~\n]*\Z")
            self.assertLessEqual(len(text.splitlines()), 400, name)
            for line in text.splitlines():
                self.assertLessEqual(len(line), 120, line)
                self.assertIsNone(WORDS_NOWHERE.search(line), line)

    def test_only_the_listed_forms(self):
        for where, node in self.walk(ast.AST):
            self.assertIsInstance(node, NODES, where)
            self.assertNotIsInstance(node, (ast.Div, ast.MatMult), where)

    def test_the_top_of_a_file(self):
        for name, tree in self.trees.items():
            self.assertIsNotNone(ast.get_docstring(tree), name)
            for node in tree.body[1:]:
                self.assertIsInstance(node, (ast.ImportFrom, ast.FunctionDef, ast.ClassDef, ast.Assign), name)
            names = bound_at_top(tree)
            self.assertEqual(len(names), len(set(names)), name)

    def test_imports_from_the_file_that_defines(self):
        drawn = {}
        for name, tree in self.trees.items():
            drawn[name] = []
            for node in ast.walk(tree):
                if isinstance(node, ast.ImportFrom):
                    package, source = node.module.split(".")
                    self.assertEqual((package, node.level), ("relationladder", 0))
                    for alias in node.names:
                        self.assertIsNone(alias.asname)
                        defs = [n for n in self.trees[source + ".py"].body if not isinstance(n, ast.ImportFrom)]
                        self.assertIn(alias.name, bound_at_top(ast.Module(defs, [])))
                    drawn[name].append(source + ".py")
        while drawn:
            free = [name for name in drawn if not any(source in drawn for source in drawn[name])]
            self.assertTrue(free, f"files that draw from one another: {sorted(drawn)}")
            for name in free:
                del drawn[name]

    def test_functions(self):
        for where, node in self.walk(ast.FunctionDef, ast.Lambda):
            args = node.args
            self.assertFalse(args.vararg or args.kwarg or args.kwonlyargs or args.posonlyargs, where)
            self.assertFalse(any(arg.annotation for arg in args.args), where)
            if isinstance(node, ast.FunctionDef):
                self.assertEqual((node.decorator_list, node.returns), ([], None), where)
                self.assertLessEqual(node.end_lineno - node.lineno + 1, 40, where)

    def test_statements(self):
        for where, node in self.walk(ast.Assign):
            self.assertEqual(len(node.targets), 1, where)
        for where, node in self.walk(ast.For, ast.While):
            self.assertEqual(node.orelse, [], where)
        for where, node in self.walk(ast.Try):
            self.assertEqual(node.finalbody, [], where)
        for name, tree in self.trees.items():
            for node in ast.walk(tree):
                if isinstance(node, ast.Expr) and node is not tree.body[0]:
                    self.assertIsInstance(node.value, ast.Call, f"{name}:{node.lineno}")

    def test_expressions(self):
        for where, node in self.walk(ast.ListComp):
            self.assertEqual(len(node.generators), 1, where)
            self.assertLessEqual(len(node.generators[0].ifs), 1, where)
        for where, node in self.walk(ast.Constant):
            self.assertIn(type(node.value), (int, str, bool, type(None)), where)
            self.assertNotIn("%", str(node.value), where)
        for where, node in self.walk(ast.BinOp):
            if isinstance(node.op, ast.Pow):
                self.assertIn(getattr(node.right, "value", None), range(65), where)
        for where, node in self.walk(ast.Compare):
            for sign, side in zip(node.ops, node.comparators):
                if isinstance(sign, (ast.Is, ast.IsNot)):
                    self.assertIn(getattr(side, "value", "other"), (None, True, False), where)

    def test_names(self):
        for name, tree in self.trees.items():
            taken = [node.name for node in tree.body if isinstance(node, ast.ClassDef)]
            taken += [alias.name for node in tree.body if isinstance(node, ast.ImportFrom) for alias in node.names]
            for node in ast.walk(tree):
                if isinstance(node, ast.Name):
                    used, stored = node.id, isinstance(node.ctx, ast.Store)
                elif isinstance(node, ast.arg):
                    used, stored = node.arg, True
                else:
                    continue
                where = f"{name}:{node.lineno} {used}"
                self.assertFalse(used.startswith("_") or used in NAMES_NOWHERE, where)
                if stored:
                    self.assertFalse(used in taken or hasattr(builtins, used), where)
                elif hasattr(builtins, used):
                    self.assertIn(used, BUILTINS, where)

    def test_attributes(self):
        foreign = own_attributes()
        for where, node in self.walk(ast.Attribute):
            self.assertFalse(node.attr.startswith("_") and node.attr != "__init__", where)
            self.assertNotIn(node.attr, NAMES_NOWHERE, where)
            if node.attr in foreign:
                self.assertIn(node.attr, METHODS + ["__init__", "add"], where)

    def test_classes(self):
        methods, values = set(), set()
        for where, node in self.walk(ast.ClassDef):
            self.assertLessEqual(len(node.bases), 1, where)
            self.assertEqual((node.decorator_list, node.keywords), ([], []), where)
            own = [part.name for part in node.body if isinstance(part, ast.FunctionDef)]
            self.assertEqual(len(own), len(set(own)), where)
            self.assertTrue(len(own) == len(node.body) or isinstance(node.body[0], ast.Pass), where)
            methods.update(own)
        for _, node in self.walk(ast.Attribute):
            if isinstance(node.ctx, ast.Store):
                values.add(node.attr)
        self.assertEqual(methods & values, set())

    def test_walked_at_once_and_sets(self):
        for name, tree in self.trees.items():
            above = parents(tree)
            for node in ast.walk(tree):
                if not isinstance(node, ast.Call):
                    continue
                called = getattr(node.func, "id", getattr(node.func, "attr", ""))
                around = above[node]
                outer = getattr(getattr(around, "func", None), "id", "")
                where = f"{name}:{node.lineno} {called}"
                if called in WALKED or called in ("items", "keys", "values"):
                    self.assertTrue(isinstance(around, (ast.For, ast.comprehension)) or outer in WALKERS, where)
                if called == "set":
                    self.assertTrue(outer in ("len", "sorted") or isinstance(around, (ast.Compare, ast.BinOp)), where)
