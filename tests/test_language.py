"""Holds the package's files to those rules of LANGUAGE.md that can be seen in a file's tree.

What a rule asks beyond that (L11, L15, L18, L23, L28 in part) is left to the reader. Where a rule allows more than the
package needs (sets, Python's own errors), the narrower is held here.
"""

import ast
import builtins
import pathlib
import re
import unittest

ROOT = pathlib.Path(__file__).resolve().parent.parent
PACKAGE = ROOT / "ovalfield"
FILES = sorted(path for path in PACKAGE.rglob("*.py"))

NODES = set("""
Module FunctionDef ClassDef Return Assign AugAssign For While If Raise Try ExceptHandler ImportFrom alias Expr
Pass Break Continue BoolOp And Or BinOp Add Sub Mult FloorDiv Mod Pow LShift RShift BitOr BitXor BitAnd
UnaryOp Not USub UAdd Invert Lambda IfExp Dict ListComp comprehension Compare Eq NotEq Lt LtE Gt GtE Is IsNot
In NotIn Call keyword FormattedValue JoinedStr Constant Attribute Subscript Name List Tuple Slice Set
Load Store arguments arg
""".split())
BUILT_IN = set("""
len range enumerate zip min max sum abs sorted reversed int str bool list tuple dict set frozenset isinstance
ord repr any all divmod Exception ValueError TypeError KeyError IndexError LookupError ZeroDivisionError
ArithmeticError OverflowError RuntimeError NotImplementedError AttributeError StopIteration
""".split())
DUNDER = {"__init__", "__eq__", "__repr__", "__str__", "__len__"}
WORDS = re.compile(
    r"\b(type|typing|typing_extensions|enum|Enum|IntEnum|StrEnum|Flag|IntFlag|Generic|Protocol|ABC|ABCMeta"
    r"|namedtuple|NamedTuple|TypedDict|TYPE_CHECKING|abstractmethod)\b|dataclass|overload|contextmanager"
)
UNUSED = {"register", "mro", "elements", "open", "input", "version_info", "with_traceback", "add_note", "format"}
OWN_METHODS = set(dir(str)) | set(dir(int)) | set(dir(list)) | set(dir(dict)) | set(dir(set)) | set(dir(bytes))
METHODS = set("""
append clear copy count endswith extend find get index insert isalnum isalpha isdigit islower isspace isupper
items join keys ljust lower lstrip partition pop remove replace reverse rfind rjust rpartition rsplit rstrip
setdefault split splitlines startswith strip update upper values zfill bit_length
""".split())
WALKED = {"zip", "enumerate", "reversed", "range", "items", "keys", "values"}
WALKERS = {"list", "tuple", "dict", "sorted", "sum", "any", "all", "enumerate", "zip", "min", "max"}
KEYWORDS = {
    "sorted": {"key", "reverse"}, "min": {"key", "default"}, "max": {"key", "default"}, "sum": {"start"},
    "enumerate": {"start"}, "zip": {"strict"},
}
KINDS = {"int", "str", "bool", "list", "tuple", "dict"}


def tree_of(path):
    return ast.parse(path.read_text(encoding="utf-8"))


def nodes_of(path, *kinds):
    return [node for node in ast.walk(tree_of(path)) if isinstance(node, kinds)]


def path_of(module):
    return ROOT / (module.replace(".", "/") + ".py")


def top_names(path):
    return {node.name for node in tree_of(path).body if isinstance(node, (ast.FunctionDef, ast.ClassDef))} | {
        target.id for node in tree_of(path).body if isinstance(node, ast.Assign) for target in node.targets
    }


def bound_names(path):
    """Names that the file binds anywhere: defs, imports, parameters, locals."""
    names = set()
    for node in ast.walk(tree_of(path)):
        if isinstance(node, (ast.FunctionDef, ast.ClassDef)):
            names.add(node.name)
        elif isinstance(node, ast.arg):
            names.add(node.arg)
        elif isinstance(node, ast.alias):
            names.add(node.asname or node.name)
        elif isinstance(node, ast.Name) and isinstance(node.ctx, ast.Store):
            names.add(node.id)
        elif isinstance(node, ast.ExceptHandler) and node.name:
            names.add(node.name)
    return names


class TestLanguage(unittest.TestCase):
    def test_files(self):
        self.assertTrue(FILES)
        for path in PACKAGE.rglob("*"):
            if "__pycache__" in path.parts:
                continue
            self.assertTrue(path.is_dir() or path.suffix == ".py", path)
            self.assertRegex(path.stem, r"^([a-z][a-z0-9_]*|__init__|__main__)$")
            self.assertNotRegex(path.stem, r"^(tests?|testing|test_.*|site|conftest|sitecustomize|usercustomize)$")
            self.assertNotIn(path.stem, dir(builtins))

    def test_signs_and_sizes(self):
        for path in FILES:
            text = path.read_text(encoding="utf-8")
            self.assertTrue(all(sign == "\n" or " " <= sign <= "~" for sign in text), path)
            self.assertLessEqual(len(text.splitlines()), 400, path)
            self.assertLessEqual(max(len(row) for row in text.splitlines()), 120, path)
            for node in nodes_of(path, ast.FunctionDef):
                self.assertLessEqual(node.end_lineno - node.lineno + 1, 40, (path, node.name))

    def test_imports(self):
        for path in FILES:
            for node in nodes_of(path, ast.ImportFrom):
                self.assertEqual(node.level, 0, path)
                self.assertTrue(node.module.startswith("ovalfield."), path)
                for name in node.names:
                    self.assertIn(name.name, top_names(path_of(node.module)), path)

    def test_no_circle_of_imports(self):
        drawn = {path: [path_of(node.module) for node in nodes_of(path, ast.ImportFrom)] for path in FILES}
        for path in FILES:
            reached, ahead = set(), list(drawn[path])
            while ahead:
                step = ahead.pop()
                if step not in reached:
                    reached.add(step)
                    ahead.extend(drawn[step])
            self.assertNotIn(path, reached)

    def test_statements_and_expressions(self):
        for path in FILES:
            tree = tree_of(path)
            for node in ast.walk(tree):
                where = (path.name, getattr(node, "lineno", 0))
                self.assertIn(type(node).__name__, NODES, where)
                if isinstance(node, ast.Assign):
                    self.assertEqual(len(node.targets), 1, where)
                    self.assertNotIsInstance(node.targets[0], (ast.Tuple, ast.List), where)
                if isinstance(node, (ast.For, ast.While)):
                    self.assertEqual(node.orelse, [], where)
                if isinstance(node, ast.Try):
                    self.assertEqual(node.finalbody, [], where)
                if isinstance(node, ast.Expr) and node is not tree.body[0]:
                    self.assertIsInstance(node.value, ast.Call, where)
                if isinstance(node, ast.ExceptHandler):
                    self.assertIsNotNone(node.type, where)
                if isinstance(node, ast.ListComp):
                    self.assertEqual(len(node.generators), 1, where)
                    self.assertLessEqual(len(node.generators[0].ifs), 1, where)
                if isinstance(node, ast.Constant):
                    self.assertIsInstance(node.value, (int, str, type(None)), where)
                    self.assertFalse(isinstance(node.value, str) and "%" in node.value, where)
                if isinstance(node, ast.FormattedValue):
                    self.assertIsInstance(node.value, ast.Name, where)
                    self.assertIsNone(node.format_spec, where)
                if isinstance(node, ast.BinOp) and isinstance(node.op, ast.Pow):
                    self.assertIsInstance(node.right, ast.Constant, where)

    def test_functions_and_classes(self):
        for path in FILES:
            for node in nodes_of(path, ast.FunctionDef, ast.ClassDef):
                self.assertEqual(node.decorator_list, [], (path, node.name))
            for node in nodes_of(path, ast.FunctionDef, ast.Lambda):
                args = node.args
                self.assertFalse(args.vararg or args.kwarg or args.kwonlyargs or args.posonlyargs, path)
            for node in nodes_of(path, ast.ClassDef):
                self.assertLessEqual(len(node.bases), 1)
                self.assertEqual(node.keywords, [])
                for part in node.body:
                    self.assertIsInstance(part, (ast.FunctionDef, ast.Pass), (path, node.name))

    def test_top_of_each_file(self):
        for path in FILES:
            body = tree_of(path).body
            self.assertIsNotNone(ast.get_docstring(tree_of(path)), path)
            for node in body[1:]:
                self.assertIsInstance(node, (ast.ImportFrom, ast.FunctionDef, ast.ClassDef, ast.Assign), path)
            names = [node.name for node in body if isinstance(node, (ast.FunctionDef, ast.ClassDef))]
            self.assertEqual(len(names), len(set(names)), path)

    def test_names(self):
        own = BUILT_IN | set(dir(builtins))
        for path in FILES:
            bound = bound_names(path)
            for name in bound - DUNDER:
                self.assertRegex(name, r"^[A-Za-z][A-Za-z0-9_]*$", path)
                self.assertNotIn(name, own, path)
                self.assertNotIn(name, UNUSED, path)
            for node in nodes_of(path, ast.Name):
                self.assertIn(node.id, bound | BUILT_IN, (path, node.lineno))
            for node in nodes_of(path, ast.Attribute):
                self.assertNotIn(node.attr, UNUSED, (path, node.lineno))
                if node.attr in OWN_METHODS and node.attr != "__init__":
                    self.assertIn(node.attr, METHODS, (path, node.lineno))

    def test_no_parameter_or_local_is_called_like_a_def_or_import(self):
        for path in FILES:
            top = top_names(path) | {name.name for node in nodes_of(path, ast.ImportFrom) for name in node.names}
            for node in nodes_of(path, ast.FunctionDef, ast.Lambda):
                inner = {arg.arg for arg in node.args.args} | {
                    name.id for name in ast.walk(node) if isinstance(name, ast.Name) and isinstance(name.ctx, ast.Store)
                }
                self.assertEqual(inner & top, set(), (path, node.lineno))

    def test_no_name_is_both_a_method_and_a_value(self):
        methods, values = set(), set()
        for path in FILES:
            for node in nodes_of(path, ast.ClassDef):
                own = [part.name for part in node.body if isinstance(part, ast.FunctionDef)]
                self.assertEqual(len(own), len(set(own)), (path, node.name))
                methods |= set(own)
            values |= {node.attr for node in nodes_of(path, ast.Attribute) if isinstance(node.ctx, ast.Store)}
        self.assertEqual(methods & values, set())

    def test_nothing_is_annotated(self):
        for path in FILES:
            for node in nodes_of(path, ast.FunctionDef):
                self.assertIsNone(node.returns, (path, node.name))
            for node in nodes_of(path, ast.arg):
                self.assertIsNone(node.annotation, (path, node.lineno))

    def test_is_stands_beside_none_and_truths_alone(self):
        for path in FILES:
            for node in nodes_of(path, ast.Compare):
                for left, operator, right in zip([node.left] + node.comparators, node.ops, node.comparators):
                    if isinstance(operator, (ast.Is, ast.IsNot)):
                        beside = [side.value for side in (left, right) if isinstance(side, ast.Constant)]
                        self.assertTrue(any(value in (None, True, False) for value in beside), (path, node.lineno))

    def test_errors_are_the_programs_own_and_made_on_the_spot(self):
        errors = top_names(PACKAGE / "errors.py")
        for path in FILES:
            for node in nodes_of(path, ast.Raise):
                self.assertIsInstance(node.exc, ast.Call, (path, node.lineno))
                self.assertIn(node.exc.func.id, errors, (path, node.lineno))
            for node in nodes_of(path, ast.ExceptHandler):
                self.assertIsInstance(node.type, ast.Name, (path, node.lineno))
                self.assertIn(node.type.id, errors, (path, node.lineno))

    def test_python_s_own_are_called_and_not_kept(self):
        for path in FILES:
            called, beside = set(), set()
            for node in nodes_of(path, ast.Call):
                called.add(node.func)
                if isinstance(node.func, ast.Name) and node.func.id == "isinstance":
                    beside |= set(node.args[1].elts if isinstance(node.args[1], ast.Tuple) else [node.args[1]])
                    self.assertTrue(all(kind.id in KINDS | bound_names(path) for kind in beside), (path, node.lineno))
                if isinstance(node.func, ast.Name) and node.func.id in BUILT_IN:
                    named = {keyword.arg for keyword in node.keywords}
                    self.assertLessEqual(named, KEYWORDS.get(node.func.id, set()), (path, node.lineno))
                    beside |= {keyword.value for keyword in node.keywords if keyword.arg == "key"}
                if isinstance(node.func, ast.Attribute) and node.func.attr in METHODS:
                    self.assertEqual(node.keywords, [], (path, node.lineno))
            # Each call of ast.parse makes new nodes, so the tree is walked by names and places.
            places = {(node.lineno, node.col_offset) for node in called | beside}
            bases = {base.id for node in nodes_of(path, ast.ClassDef) for base in node.bases}
            for node in nodes_of(path, ast.Name):
                if node.id in BUILT_IN and node.id not in bases:
                    self.assertIn((node.lineno, node.col_offset), places, (path, node.lineno))
            for node in nodes_of(path, ast.Attribute):
                if node.attr in METHODS:
                    self.assertIn((node.lineno, node.col_offset), places, (path, node.lineno))

    def test_walked_on_the_spot(self):
        for path in FILES:
            walked = set()
            for node in nodes_of(path, ast.For, ast.comprehension, ast.Call):
                if isinstance(node, (ast.For, ast.comprehension)):
                    walked.add((node.iter.lineno, node.iter.col_offset))
                elif isinstance(node.func, ast.Name) and node.func.id in WALKERS:
                    walked |= {(thing.lineno, thing.col_offset) for thing in node.args[:1]}
            for node in nodes_of(path, ast.Call):
                name = node.func.id if isinstance(node.func, ast.Name) else getattr(node.func, "attr", None)
                if name in WALKED:
                    self.assertIn((node.lineno, node.col_offset), walked, (path, node.lineno))

    def test_no_sets(self):
        for path in FILES:
            self.assertEqual(nodes_of(path, ast.Set), [], path)
            self.assertFalse({node.id for node in nodes_of(path, ast.Name)} & {"set", "frozenset"}, path)

    def test_lists_and_dicts_of_a_file_s_top_hold_none(self):
        for path in FILES:
            for node in tree_of(path).body:
                if isinstance(node, ast.Assign):
                    self.assertIsInstance(node.targets[0], ast.Name, path)
                    inner = [part for part in ast.walk(node.value) if part is not node.value]
                    self.assertFalse([part for part in inner if isinstance(part, (ast.List, ast.Dict))], path)

    def test_words_that_stand_nowhere(self):
        for path in FILES:
            self.assertIsNone(WORDS.search(path.read_text(encoding="utf-8")), path)


if __name__ == "__main__":
    unittest.main()
