"""The package keeps to the small part of Python: those of the language's rules that can be seen in its tree."""

import ast
import builtins
import pathlib
import re
import unittest

PACKAGE = pathlib.Path(__file__).resolve().parent.parent / "frontends"
FILES = sorted(PACKAGE.rglob("*.py"))

BUILT_IN = set(
    "len range enumerate zip min max sum abs sorted reversed int str bool list tuple dict set frozenset isinstance "
    "ord repr any all divmod Exception ValueError TypeError KeyError IndexError LookupError ZeroDivisionError "
    "ArithmeticError OverflowError RuntimeError NotImplementedError StopIteration".split()
)
OWN_METHODS = set(
    "append clear copy count endswith extend find get index insert isalnum isalpha isdigit islower isspace isupper "
    "items join keys ljust lower lstrip partition pop remove replace reverse rfind rjust rpartition rsplit rstrip "
    "setdefault split splitlines startswith strip update upper values zfill bit_length".split()
)
SPECIAL = {"__init__", "__eq__", "__repr__", "__str__", "__len__"}
STATEMENTS = (
    ast.FunctionDef, ast.ClassDef, ast.Return, ast.Assign, ast.AugAssign, ast.For, ast.While, ast.If, ast.Raise,
    ast.Try, ast.ImportFrom, ast.Expr, ast.Pass, ast.Break, ast.Continue,
)
NOT_EXPRESSIONS = (
    ast.Set, ast.SetComp, ast.DictComp, ast.GeneratorExp, ast.NamedExpr, ast.Starred, ast.Await, ast.Yield,
    ast.YieldFrom, ast.Div, ast.MatMult,
)
WORDS = re.compile(
    r"\b(type|typing|typing_extensions|enum|Enum|IntEnum|StrEnum|Flag|IntFlag|Generic|Protocol|ABC|ABCMeta|namedtuple"
    r"|NamedTuple|TypedDict|TYPE_CHECKING|abstractmethod)\b|dataclass|overload|contextmanager"
)
TAKEN_NAMES = set(
    "register mro elements open input version_info with_traceback add_note format format_map encode args".split()
)
PLAIN = (ast.Constant, ast.Tuple, ast.List, ast.Dict, ast.UnaryOp, ast.USub, ast.Load)


def nodes(kind):
    for path in FILES:
        for node in ast.walk(ast.parse(path.read_text())):
            if isinstance(node, kind):
                yield path.name, node


def value_names():
    """Names that Python's own values have as a method or a value."""
    return {name for kind in (str, int, list, dict, set, bytes, tuple) for name in dir(kind)}


class Language(unittest.TestCase):
    def none(self, found):
        self.assertEqual([(name, node.lineno, ast.dump(node)[:80]) for name, node in found], [])

    def test_files(self):
        self.assertIn("__init__.py", [path.name for path in FILES])
        strangers = [p.name for p in PACKAGE.rglob("*") if p.suffix != ".py" and p.name != "__pycache__"]
        self.assertEqual([name for name in strangers if not name.endswith(".pyc")], [])
        for path in FILES:
            text = path.read_text()
            self.assertRegex(path.name, r"^(__init__|[a-z][a-z0-9_]*)\.py$")
            self.assertNotIn(path.stem, dir(builtins))
            self.assertLessEqual(len(text.splitlines()), 400, path.name)
            self.assertLessEqual(max(map(len, text.splitlines())), 120, path.name)
            self.assertTrue(all(sign == "\n" or " " <= sign <= "~" for sign in text), path.name)
            self.assertIsNone(WORDS.search(text), path.name)

    def test_the_top_of_a_file(self):
        for path in FILES:
            bound = []
            for node in ast.parse(path.read_text()).body:
                if isinstance(node, ast.Assign):
                    bound.append(node.targets[0].id)
                    functions = {n.id for n in ast.walk(node.value) if isinstance(n, ast.Name)}
                    self.assertLessEqual(functions, set(bound), (path.name, node.lineno))
                    plain = PLAIN + (ast.Name,)
                    self.assertTrue(all(isinstance(n, plain) for n in ast.walk(node.value)), (path.name, node.lineno))
                    inner = [n for n in ast.walk(node.value) if isinstance(n, (ast.List, ast.Dict)) and n is not node.value]
                    self.assertEqual(inner, [], (path.name, node.lineno))
                elif isinstance(node, (ast.FunctionDef, ast.ClassDef)):
                    bound.append(node.name)
                elif isinstance(node, ast.ImportFrom):
                    bound += [alias.name for alias in node.names]
                else:
                    self.assertIsInstance(node, ast.Expr)
            self.assertEqual(len(bound), len(set(bound)), path.name)

    def test_imports(self):
        drawn = {}
        for name, node in nodes((ast.Import, ast.ImportFrom)):
            self.assertIsInstance(node, ast.ImportFrom)
            self.assertTrue(node.level == 0 and node.module.startswith("frontends."), name)
            self.assertTrue(all(alias.asname is None and alias.name != "*" for alias in node.names), name)
            tree = ast.parse((PACKAGE / (node.module.split(".")[1] + ".py")).read_text())
            own = {n.name for n in tree.body if isinstance(n, (ast.FunctionDef, ast.ClassDef))}
            own |= {n.targets[0].id for n in tree.body if isinstance(n, ast.Assign)}
            self.assertLessEqual({alias.name for alias in node.names}, own, name)
            drawn.setdefault(name, set()).add(node.module.split(".")[1] + ".py")
        while drawn:
            free = [name for name in drawn if not drawn[name] & set(drawn)]
            self.assertTrue(free, drawn)
            for name in free:
                drawn.pop(name)

    def test_statements_and_expressions(self):
        self.none([(n, s) for n, s in nodes(ast.stmt) if not isinstance(s, STATEMENTS)])
        self.none(nodes(tuple(k for k in NOT_EXPRESSIONS if issubclass(k, ast.expr))))
        self.assertEqual([n for n, _ in nodes((ast.Div, ast.MatMult))], [])
        self.none([(n, s) for n, s in nodes((ast.For, ast.While)) if s.orelse])
        self.none([(n, s) for n, s in nodes(ast.Try) if s.finalbody])
        self.none([(n, s) for n, s in nodes(ast.Assign) if len(s.targets) != 1])
        self.none([(n, s) for n, s in nodes(ast.Constant) if isinstance(s.value, (float, bytes, complex))])
        self.none([(n, s) for n, s in nodes(ast.Constant) if isinstance(s.value, str) and "%" in s.value])
        self.none([(n, s) for n, s in nodes(ast.BinOp) if isinstance(s.op, ast.Pow)])
        self.none([(n, s) for n, s in nodes(ast.ListComp) if len(s.generators) > 1 or len(s.generators[0].ifs) > 1])
        for name, node in nodes(ast.Compare):
            if any(isinstance(op, (ast.Is, ast.IsNot)) for op in node.ops):
                self.assertIn(node.comparators[0].value, (None, True, False), name)

    def test_functions_and_classes(self):
        for name, node in nodes(ast.FunctionDef):
            self.assertLessEqual(node.end_lineno - node.lineno + 1, 40, (name, node.name))
            spread = node.args.vararg or node.args.kwarg or node.args.kwonlyargs or node.decorator_list
            self.assertFalse(spread, (name, node.name))
        for name, node in nodes(ast.ClassDef):
            self.assertTrue(len(node.bases) <= 1 and not node.keywords and not node.decorator_list, name)
            body = [n for n in node.body if not isinstance(n, (ast.FunctionDef, ast.Expr))]
            self.assertEqual(body, [], name)

    def test_names(self):
        python_own = set(dir(builtins))
        for name, node in nodes((ast.Name, ast.arg, ast.FunctionDef, ast.ClassDef)):
            if isinstance(node, ast.Name):
                called, stored = node.id, isinstance(node.ctx, ast.Store)
            else:
                called, stored = getattr(node, "arg", None) or node.name, True
            self.assertTrue(called in SPECIAL or not called.startswith("_"), (name, called))
            self.assertNotIn(called, TAKEN_NAMES, name)
            if stored:
                self.assertNotIn(called, python_own, (name, node.lineno))
            elif called in python_own:
                self.assertIn(called, BUILT_IN, (name, node.lineno))

    def test_locals_are_not_called_like_classes_or_imports(self):
        for path in FILES:
            tree = ast.parse(path.read_text())
            top = {n.name for n in tree.body if isinstance(n, ast.ClassDef)}
            top |= {alias.name for n in tree.body if isinstance(n, ast.ImportFrom) for alias in n.names}
            for function in [n for n in ast.walk(tree) if isinstance(n, ast.FunctionDef)]:
                inner = {n.arg for n in ast.walk(function) if isinstance(n, ast.arg)}
                inner |= {n.id for n in ast.walk(function) if isinstance(n, ast.Name) and isinstance(n.ctx, ast.Store)}
                self.assertEqual(inner & top, set(), (path.name, function.name))

    def test_methods_and_values(self):
        methods = {n.name for _, c in nodes(ast.ClassDef) for n in c.body if isinstance(n, ast.FunctionDef)} - SPECIAL
        kept = {n.attr for _, n in nodes(ast.Attribute) if isinstance(n.ctx, ast.Store)}
        self.assertEqual(methods & kept, set())
        self.assertEqual((methods | kept) & value_names(), set())
        for name, node in nodes(ast.Attribute):
            self.assertIn(node.attr, methods | kept | OWN_METHODS | SPECIAL, (name, node.lineno))
            self.assertNotIn(node.attr, TAKEN_NAMES, (name, node.lineno))

    def test_errors(self):
        for name, node in nodes(ast.ExceptHandler):
            self.assertIsInstance(node.type, ast.Name, name)
            self.assertNotIn(node.type.id, ("Exception", "TypeError", "ValueError", "LookupError", "IndexError"), name)


if __name__ == "__main__":
    unittest.main()
