"""The form of the package's files, as far as a walk through their trees can see it."""

import ast
import builtins
import re
import unittest
from pathlib import Path

PACKAGE = Path(__file__).resolve().parent.parent / "wontalk"

STATEMENTS = (
    ast.Assign, ast.AugAssign, ast.If, ast.While, ast.For, ast.Return, ast.Break, ast.Continue, ast.Pass, ast.Raise,
    ast.Try, ast.Expr, ast.FunctionDef, ast.ClassDef, ast.ImportFrom)
EXPRESSIONS = (
    ast.Constant, ast.List, ast.Tuple, ast.Dict, ast.Set, ast.BinOp, ast.UnaryOp, ast.BoolOp, ast.Compare, ast.IfExp,
    ast.Call, ast.Attribute, ast.Subscript, ast.Slice, ast.ListComp, ast.JoinedStr, ast.FormattedValue, ast.Name,
    ast.Lambda)
OWN_NAMES = set(
    "len range enumerate zip min max sum abs sorted reversed int str bool list tuple dict set frozenset isinstance ord "
    "repr any all divmod Exception ValueError TypeError KeyError IndexError LookupError ZeroDivisionError "
    "ArithmeticError OverflowError RuntimeError NotImplementedError AttributeError StopIteration".split())
OWN_METHODS = set(
    "append clear copy count endswith extend find get index insert isalnum isalpha isdigit islower isspace isupper "
    "items join keys ljust lower lstrip partition pop remove replace reverse rfind rjust rpartition rsplit rstrip "
    "setdefault split splitlines startswith strip update upper values zfill bit_length".split())
SPECIAL_METHODS = ("__init__", "__eq__", "__repr__", "__str__", "__len__")
UNUSED_WORDS = set(
    "type typing typing_extensions enum Enum IntEnum StrEnum Flag IntFlag Generic Protocol ABC ABCMeta namedtuple "
    "NamedTuple TypedDict TYPE_CHECKING abstractmethod register mro elements open input version_info with_traceback "
    "add_note attrgetter breakpoint builtins compile eval exec getattr globals locals super vars".split())
KEYWORDS = {"sorted": {"key", "reverse"}, "min": {"key", "default"}, "max": {"key", "default"}, "sum": {"start"},
            "enumerate": {"start"}, "zip": {"strict"}}
WALKED_AT_ONCE = ("zip", "enumerate", "reversed", "range")
WALKERS = ("list", "tuple", "dict", "sorted", "sum", "any", "all", "enumerate", "zip", "min", "max")


def files():
    return sorted(PACKAGE.glob("*.py"))


def bound_at_top(tree):
    names = []
    for node in tree.body:
        if isinstance(node, ast.ImportFrom):
            names += [alias.name for alias in node.names]
        elif isinstance(node, (ast.FunctionDef, ast.ClassDef)):
            names.append(node.name)
        elif isinstance(node, ast.Assign):
            names += [target.id for target in node.targets]
    return names


def locals_of(function):
    names = [argument.arg for argument in function.args.args]
    names += [node.id for node in ast.walk(function) if isinstance(node, ast.Name) and isinstance(node.ctx, ast.Store)]
    return names


def is_plain(node):
    if isinstance(node, ast.UnaryOp):
        return isinstance(node.op, ast.USub) and is_plain(node.operand)
    if isinstance(node, (ast.List, ast.Tuple)):
        return all(is_plain(part) for part in node.elts)
    if isinstance(node, ast.Dict):
        return all(is_plain(part) for part in node.keys + node.values)
    return isinstance(node, ast.Constant)


def walked_on_the_spot(tree):
    spots = []
    for node in ast.walk(tree):
        if isinstance(node, (ast.For, ast.comprehension)):
            spots.append(node.iter)
        elif isinstance(node, ast.Call) and isinstance(node.func, ast.Name) and node.func.id in WALKERS:
            spots += node.args
    return spots


class Form(unittest.TestCase):
    def setUp(self):
        self.sources = {path.name: path.read_text(encoding="utf-8") for path in files()}
        self.trees = {name: ast.parse(source) for name, source in self.sources.items()}

    def nodes(self, *kinds):
        for name, tree in self.trees.items():
            for node in ast.walk(tree):
                if isinstance(node, kinds):
                    yield f"{name}:{node.lineno}", node

    def test_only_plain_files_lie_in_the_package(self):
        self.assertIn("__init__.py", self.sources)
        for path in PACKAGE.rglob("*"):
            if "__pycache__" not in path.parts:
                self.assertTrue(re.fullmatch(r"[a-z][a-z0-9_]*\.py|__init__\.py", path.name), path)
                self.assertNotIn(path.stem, [part for part in dir(builtins) if not part.startswith("_")], path)
                self.assertFalse(path.stem.startswith("test"), path)

    def test_sizes_and_signs(self):
        for name, source in self.sources.items():
            self.assertTrue(re.fullmatch(r"[ -~\n]*", source), name)
            self.assertLessEqual(len(source.splitlines()), 400, name)
            for line in source.splitlines():
                self.assertLessEqual(len(line), 120, (name, line))
        for where, node in self.nodes(ast.FunctionDef):
            self.assertLessEqual(node.end_lineno - node.lineno + 1, 40, where)

    def test_words_that_are_not_used(self):
        for name, source in self.sources.items():
            self.assertEqual(set(re.findall(r"\w+", source)) & UNUSED_WORDS, set(), name)
            self.assertFalse(re.search("dataclass|overload|contextmanager", source), name)

    def test_imports(self):
        drawn = {}
        for name, tree in self.trees.items():
            drawn[name] = set()
            for node in ast.walk(tree):
                self.assertNotIsInstance(node, ast.Import, name)
                if isinstance(node, ast.ImportFrom):
                    self.assertIn(node, tree.body, name)
                    self.assertEqual(node.level, 0, name)
                    self.assertTrue(node.module.startswith("wontalk."), name)
                    source = node.module.partition(".")[2] + ".py"
                    drawn[name].add(source)
                    defined = [part for part in self.trees[source].body if not isinstance(part, ast.ImportFrom)]
                    for alias in node.names:
                        self.assertIsNone(alias.asname, name)
                        self.assertIn(alias.name, bound_at_top(ast.Module(defined, [])), name)
        while drawn:
            ends = [name for name, sources in drawn.items() if not sources & set(drawn)]
            self.assertTrue(ends, f"files draw from one another: {drawn}")
            for name in ends:
                drawn.pop(name)

    def test_the_top_of_a_file(self):
        for name, tree in self.trees.items():
            for place, node in enumerate(tree.body):
                if isinstance(node, ast.Expr):
                    self.assertEqual(place, 0, name)
                elif isinstance(node, ast.Assign):
                    self.assertTrue(is_plain(node.value), f"{name}:{node.lineno}")
                else:
                    self.assertIsInstance(node, (ast.ImportFrom, ast.FunctionDef, ast.ClassDef), name)
            names = bound_at_top(tree)
            self.assertEqual(len(names), len(set(names)), name)

    def test_statements_and_expressions(self):
        for where, node in self.nodes(ast.stmt):
            self.assertIsInstance(node, STATEMENTS, where)
            self.assertFalse(isinstance(node, (ast.For, ast.While)) and node.orelse, where)
            if isinstance(node, ast.Assign):
                self.assertEqual(len(node.targets), 1, where)
                self.assertNotIsInstance(node.targets[0], (ast.Tuple, ast.List), where)
            if isinstance(node, ast.Try):
                self.assertEqual(node.finalbody, [], where)
        for where, node in self.nodes(ast.expr):
            self.assertIsInstance(node, EXPRESSIONS, where)
            if isinstance(node, ast.Constant):
                self.assertIn(type(node.value), (int, str, bool, type(None)), where)
            if isinstance(node, ast.BinOp):
                self.assertNotIsInstance(node.op, (ast.Div, ast.MatMult, ast.Pow), where)
            if isinstance(node, ast.ListComp):
                self.assertEqual(len(node.generators), 1, where)
                self.assertLessEqual(len(node.generators[0].ifs), 1, where)
            if isinstance(node, ast.Call):
                self.assertEqual([word for word in node.keywords if word.arg is None], [], where)

    def test_functions_and_classes(self):
        for where, node in self.nodes(ast.FunctionDef):
            self.assertEqual(node.decorator_list, [], where)
            self.assertFalse(node.args.vararg or node.args.kwarg or node.args.kwonlyargs or node.args.posonlyargs, where)
            self.assertFalse(node.returns or any(argument.annotation for argument in node.args.args), where)
        for where, node in self.nodes(ast.ClassDef):
            self.assertEqual(node.decorator_list + node.keywords, [], where)
            self.assertLessEqual(len(node.bases), 1, where)
            for part in node.body:
                self.assertIsInstance(part, ast.FunctionDef, where)

    def test_a_text_by_itself_stands_at_the_top_alone(self):
        tops = [tree.body[0] for tree in self.trees.values()]
        for where, node in self.nodes(ast.Expr):
            self.assertTrue(isinstance(node.value, ast.Call) or node in tops, where)

    def test_names(self):
        for name, tree in self.trees.items():
            top = bound_at_top(tree)
            taken = [node.name for node in tree.body if isinstance(node, ast.ClassDef)]
            taken += [alias.name for node in tree.body if isinstance(node, ast.ImportFrom) for alias in node.names]
            for part in top:
                self.assertFalse(hasattr(builtins, part) or part.startswith("_"), (name, part))
            for node in ast.walk(tree):
                if isinstance(node, ast.FunctionDef):
                    self.assertTrue(node.name in SPECIAL_METHODS or not node.name.startswith("_"), node.name)
                    for part in locals_of(node):
                        self.assertFalse(hasattr(builtins, part) or part.startswith("_"), (name, part))
                        self.assertNotIn(part, taken, name)

    def test_python_names_and_methods(self):
        methods = {node.name for _, node in self.nodes(ast.FunctionDef)}
        for name, tree in self.trees.items():
            known = set(bound_at_top(tree)) | OWN_NAMES
            for node in ast.walk(tree):
                if isinstance(node, (ast.FunctionDef, ast.Lambda)):
                    known |= set(locals_of(node))
            for node in ast.walk(tree):
                if isinstance(node, ast.Name):
                    self.assertIn(node.id, known, name)
                if isinstance(node, ast.Call) and isinstance(node.func, ast.Attribute):
                    self.assertIn(node.func.attr, methods | OWN_METHODS, name)

    def test_keywords_at_python_names_and_methods(self):
        for where, node in self.nodes(ast.Call):
            words = {word.arg for word in node.keywords}
            if isinstance(node.func, ast.Attribute):
                self.assertFalse(words and node.func.attr in OWN_METHODS, where)
            elif isinstance(node.func, ast.Name) and node.func.id in OWN_NAMES:
                self.assertLessEqual(words, KEYWORDS.get(node.func.id, set()), where)

    def test_is_stands_beside_none_true_and_false_alone(self):
        for where, node in self.nodes(ast.Compare):
            for sign, right in zip(node.ops, node.comparators):
                if isinstance(sign, (ast.Is, ast.IsNot)):
                    self.assertTrue(isinstance(right, ast.Constant) and right.value in (None, True, False), where)

    def test_what_a_loop_walks_is_not_changed_in_it(self):
        changes = ("append", "clear", "extend", "insert", "pop", "remove", "reverse", "setdefault", "update")
        for where, loop in self.nodes(ast.For):
            walked = {ast.dump(part) for part in ast.walk(loop.iter) if isinstance(part, (ast.Name, ast.Attribute))}
            for node in ast.walk(ast.Module(loop.body, [])):
                if isinstance(node, ast.Call) and isinstance(node.func, ast.Attribute) and node.func.attr in changes:
                    self.assertNotIn(ast.dump(node.func.value), walked, where)
                if isinstance(node, ast.Subscript) and isinstance(node.ctx, ast.Store):
                    self.assertNotIn(ast.dump(node.value), walked, where)

    def test_values_of_objects(self):
        values = {node.attr for _, node in self.nodes(ast.Attribute) if isinstance(node.ctx, ast.Store)}
        methods = {part.name for _, node in self.nodes(ast.ClassDef) for part in node.body}
        self.assertEqual(values & methods, set())
        for kind in (str, int, list, dict, set, bytes):
            self.assertEqual((values | methods - set(SPECIAL_METHODS)) & set(dir(kind)), set())

    def test_walked_at_once(self):
        for name, tree in self.trees.items():
            spots = walked_on_the_spot(tree)
            for node in ast.walk(tree):
                if isinstance(node, ast.Call):
                    kept = isinstance(node.func, ast.Name) and node.func.id in WALKED_AT_ONCE
                    kept = kept or isinstance(node.func, ast.Attribute) and node.func.attr in ("items", "keys", "values")
                    self.assertTrue(not kept or node in spots, f"{name}:{node.lineno}")


if __name__ == "__main__":
    unittest.main()
