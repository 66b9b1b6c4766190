"""The package keeps to its part of the language, as far as a walk over its files can tell."""

import ast
import builtins
import pathlib
import re
import unittest

PACKAGE = pathlib.Path(__file__).resolve().parent.parent / "knockpurse"
FILES = sorted(PACKAGE.rglob("*.py"))

OWN_NAMES = set(
    "len range enumerate zip min max sum abs sorted reversed int str bool bytes list tuple dict set frozenset isinstance "
    "ord repr any all divmod Exception ValueError TypeError KeyError IndexError LookupError ZeroDivisionError "
    "ArithmeticError OverflowError RuntimeError NotImplementedError AttributeError StopIteration".split()
)
METHODS = set(
    "append clear copy count endswith extend find get index insert isalnum isalpha isdigit islower isspace isupper items "
    "join keys ljust lower lstrip partition pop remove replace reverse rfind rjust rpartition rsplit rstrip setdefault "
    "split splitlines startswith strip update upper values zfill bit_length add discard sort".split()
)
BANNED_WORDS = re.compile(
    r"\b(type|typing|typing_extensions|enum|Enum|IntEnum|StrEnum|Flag|IntFlag|Generic|Protocol|ABC|ABCMeta|namedtuple|"
    r"NamedTuple|TypedDict|TYPE_CHECKING|abstractmethod)\b|dataclass|overload|contextmanager"
)
BANNED_NODES = (
    ast.AsyncFor, ast.AsyncFunctionDef, ast.AsyncWith, ast.Await, ast.Div, ast.GeneratorExp, ast.Global, ast.Import,
    ast.Match, ast.MatMult, ast.NamedExpr, ast.Nonlocal, ast.With, ast.Yield, ast.YieldFrom,
)


def trees():
    for path in FILES:
        yield path, ast.parse(path.read_text(encoding="ascii"))


def nodes():
    for path, tree in trees():
        for node in ast.walk(tree):
            yield f"{path.name}:{getattr(node, 'lineno', 0)}", node


def names_at_top(tree):
    names = []
    for node in tree.body:
        if isinstance(node, (ast.FunctionDef, ast.ClassDef)):
            names.append(node.name)
        elif isinstance(node, ast.Assign):
            names += [target.id for target in node.targets]
    return names


class Language(unittest.TestCase):
    def test_nothing_else_lies_in_the_package(self):
        self.assertTrue(FILES)
        for path in PACKAGE.rglob("*"):
            if "__pycache__" not in path.parts:
                self.assertRegex(path.name, r"^([a-z][a-z0-9_]*|__init__|__main__)(\.py)?$")
                self.assertTrue(path.is_dir() or path.suffix == ".py", path)

    def test_signs_and_sizes(self):
        for path in FILES:
            text = path.read_text(encoding="ascii")
            self.assertRegex(text, r"\A[ -~\n]*\Z")
            self.assertLessEqual(text.count("\n"), 400)
            self.assertLessEqual(max(len(row) for row in text.split("\n")), 120)
            self.assertIsNone(BANNED_WORDS.search(text), path)

    def test_functions_are_small(self):
        for place, node in nodes():
            if isinstance(node, ast.FunctionDef):
                self.assertLessEqual(node.end_lineno - node.lineno + 1, 40, place)
                self.assertEqual(node.decorator_list, [], place)
                self.assertIsNone(node.args.vararg or node.args.kwarg, place)
                self.assertEqual(node.args.posonlyargs, [], place)

    def test_forms_that_are_not_used(self):
        for place, node in nodes():
            self.assertNotIsInstance(node, BANNED_NODES, place)
            if isinstance(node, (ast.For, ast.While)):
                self.assertEqual(node.orelse, [], place)
            if isinstance(node, ast.Constant):
                self.assertNotIsInstance(node.value, (float, complex), place)
                self.assertNotIn("%", node.value if isinstance(node.value, str) else "", place)
            if isinstance(node, ast.BinOp) and isinstance(node.op, ast.Pow):
                self.assertIsInstance(node.right, ast.Constant, place)
            if isinstance(node, ast.Compare) and isinstance(node.ops[0], (ast.Is, ast.IsNot)):
                self.assertIsInstance(node.comparators[0], ast.Constant, place)

    def test_names(self):
        for place, node in nodes():
            if isinstance(node, ast.Name):
                if isinstance(node.ctx, ast.Load):
                    self.assertTrue(node.id in OWN_NAMES or not hasattr(builtins, node.id), place)
                else:
                    self.assertFalse(hasattr(builtins, node.id), place)
                self.assertRegex(node.id, r"^[A-Za-z]", place)
            if isinstance(node, ast.arg):
                self.assertFalse(hasattr(builtins, node.arg) or node.arg.startswith("_"), place)

    def test_attributes(self):
        given = set()
        for _, node in nodes():
            if isinstance(node, ast.Attribute) and isinstance(node.ctx, ast.Store):
                given.add(node.attr)
            if isinstance(node, ast.ClassDef):
                given.update(one.name for one in node.body if isinstance(one, ast.FunctionDef))
        for place, node in nodes():
            if isinstance(node, ast.Attribute):
                self.assertIn(node.attr, METHODS | given, place)

    def test_no_name_is_a_method_here_and_a_value_there(self):
        methods, values = [], []
        for _, node in nodes():
            if isinstance(node, ast.ClassDef):
                methods += [one.name for one in node.body if isinstance(one, ast.FunctionDef)]
            if isinstance(node, ast.Attribute) and isinstance(node.ctx, ast.Store):
                values.append(node.attr)
        self.assertEqual(set(methods) & set(values), set())

    def test_imports(self):
        tops = {f"knockpurse.{path.stem}": names_at_top(tree) for path, tree in trees()}
        for place, node in nodes():
            if isinstance(node, ast.ImportFrom):
                self.assertEqual(node.level, 0, place)
                self.assertIn(node.module, tops, place)
                for name in node.names:
                    self.assertIn(name.name, tops[node.module], place)
                    self.assertIsNone(name.asname, place)

    def test_each_name_stands_once_at_a_top(self):
        for path, tree in trees():
            names = names_at_top(tree)
            self.assertEqual(len(names), len(set(names)), path)

    def test_no_local_is_called_like_an_import_or_a_class_of_its_file(self):
        for path, tree in trees():
            taken = {name.name for node in tree.body if isinstance(node, ast.ImportFrom) for name in node.names}
            taken |= {node.name for node in tree.body if isinstance(node, ast.ClassDef)}
            for node in ast.walk(tree):
                if isinstance(node, ast.Name) and not isinstance(node.ctx, ast.Load):
                    self.assertNotIn(node.id, taken, path)
                if isinstance(node, ast.arg):
                    self.assertNotIn(node.arg, taken, path)

    def test_lists_and_dicts_of_a_top_are_only_read(self):
        for path, tree in trees():
            kept = {
                target.id for node in tree.body if isinstance(node, ast.Assign) and isinstance(node.value, (ast.List, ast.Dict))
                for target in node.targets
            }
            read = set()
            for node in ast.walk(tree):
                if isinstance(node, ast.Subscript) and isinstance(node.ctx, ast.Load):
                    read.add(node.value)
                if isinstance(node, ast.Compare):
                    read.update(node.comparators)
                if isinstance(node, ast.Attribute) and node.attr == "get":
                    read.add(node.value)
            for node in ast.walk(tree):
                if isinstance(node, ast.Name) and isinstance(node.ctx, ast.Load) and node.id in kept:
                    self.assertIn(node, read, f"{path.name}:{node.lineno}")

    def test_imports_do_not_lead_back(self):
        drawn = {
            path.stem: {node.module.split(".")[1] for node in ast.walk(tree) if isinstance(node, ast.ImportFrom)}
            for path, tree in trees()
        }
        while drawn:
            free = [stem for stem, needed in drawn.items() if not needed & set(drawn)]
            self.assertTrue(free, drawn)
            for stem in free:
                del drawn[stem]


if __name__ == "__main__":
    unittest.main()
