"""The package's files keep to the part of Python that the program is held to, as far as a look at the text shows."""

import ast
import builtins
import pathlib
import re
import unittest

FOLDER = pathlib.Path(__file__).resolve().parent.parent / "deedloom"

NODES = """Module Import ImportFrom alias FunctionDef arguments arg ClassDef Assign AugAssign If While For Return Break
Continue Pass Raise Try ExceptHandler Expr Constant List Tuple Dict Set BinOp UnaryOp BoolOp Compare IfExp Call keyword
Attribute Subscript Slice ListComp comprehension JoinedStr FormattedValue Name Lambda Load Store
Add Sub Mult FloorDiv Mod Pow BitAnd BitOr BitXor Invert LShift RShift And Or Not USub UAdd
Eq NotEq Lt LtE Gt GtE In NotIn Is IsNot""".split()

BUILTINS = """len range enumerate zip min max sum abs sorted reversed int str bool list tuple dict set frozenset isinstance
ord repr any all divmod Exception ValueError TypeError KeyError IndexError LookupError ZeroDivisionError
ArithmeticError OverflowError RuntimeError NotImplementedError AttributeError StopIteration""".split()

METHODS = """append clear copy count endswith extend find get index insert isalnum isalpha isdigit islower isspace isupper
items join keys ljust lower lstrip partition pop remove replace reverse rfind rjust rpartition rsplit rstrip setdefault
split splitlines startswith strip update upper values zfill bit_length""".split()

WORDS_OUT = """type typing typing_extensions enum Enum IntEnum StrEnum Flag IntFlag Generic Protocol ABC ABCMeta namedtuple
NamedTuple TypedDict TYPE_CHECKING abstractmethod""".split()

DUNDERS = ("__init__", "__eq__", "__repr__", "__str__", "__len__", "__all__", "__version__")


def sources():
    return {path: path.read_text(encoding="utf-8") for path in sorted(FOLDER.glob("*.py"))}


def bound_names(tree):
    names = []
    for node in ast.walk(tree):
        if isinstance(node, (ast.FunctionDef, ast.ClassDef)):
            names.append(node.name)
        elif isinstance(node, ast.arg):
            names.append(node.arg)
        elif isinstance(node, ast.Name) and isinstance(node.ctx, ast.Store):
            names.append(node.id)
        elif isinstance(node, ast.Attribute) and isinstance(node.ctx, ast.Store):
            names.append(node.attr)
        elif isinstance(node, ast.alias):
            names.append(node.asname or node.name)
    return names


class Language(unittest.TestCase):
    def each(self, judge):
        for path, source in sources().items():
            with self.subTest(file=path.name):
                judge(source, ast.parse(source))

    def test_files(self):
        names = sorted(path.name for path in FOLDER.iterdir() if path.name != "__pycache__")
        self.assertIn("__init__.py", names)
        for name in names:
            self.assertRegex(name, r"\A[a-z0-9_]+\.py\Z")

    def test_signs_and_size(self):
        def judge(source, tree):
            self.assertRegex(source, r"\A[ -~\n]*\Z")
            lines = source.split("\n")
            self.assertLessEqual(len(lines), 400)
            self.assertLessEqual(max(len(line) for line in lines), 120)
            for node in ast.walk(tree):
                if isinstance(node, ast.FunctionDef):
                    self.assertLessEqual(node.end_lineno - node.lineno + 1, 40, node.name)

        self.each(judge)

    def test_words_that_stand_nowhere(self):
        def judge(source, tree):
            self.assertEqual(set(re.findall(r"\w+", source)) & set(WORDS_OUT), set())
            self.assertNotRegex(source, "dataclass|overload|contextmanager")

        self.each(judge)

    def test_kinds_of_code(self):
        def judge(source, tree):
            for node in ast.walk(tree):
                self.assertIn(type(node).__name__, NODES, getattr(node, "lineno", ""))
                if isinstance(node, (ast.For, ast.While)):
                    self.assertEqual(node.orelse, [])
                if isinstance(node, ast.Assign):
                    self.assertEqual(len(node.targets), 1)
                if isinstance(node, ast.Constant):
                    self.assertIn(type(node.value), (int, str, bool, type(None)))
                    self.assertNotIn("%", str(node.value))
                if isinstance(node, ast.BinOp) and isinstance(node.op, ast.Pow):
                    self.assertIsInstance(node.right, ast.Constant)
                if isinstance(node, ast.FunctionDef):
                    self.assertEqual((node.decorator_list, node.args.vararg, node.args.kwarg, node.args.kwonlyargs),
                                     ([], None, None, []))

        self.each(judge)

    def test_imports(self):
        def judge(source, tree):
            for node in ast.walk(tree):
                self.assertNotIsInstance(node, ast.Import)
                if isinstance(node, ast.ImportFrom):
                    self.assertIn(node, tree.body)
                    self.assertEqual(node.level, 0)
                    self.assertRegex(node.module, r"\Adeedloom\.[a-z0-9]+\Z")
                    home = ast.parse((FOLDER / (node.module.split(".")[1] + ".py")).read_text(encoding="utf-8"))
                    made = [name for part in home.body if not isinstance(part, ast.ImportFrom)
                            for name in bound_names(part)]
                    for drawn in node.names:
                        self.assertIn(drawn.name, made)

        self.each(judge)

    def test_no_two_files_draw_from_one_another(self):
        drawn = {path.stem: {node.module.split(".")[1] for node in ast.parse(source).body
                             if isinstance(node, ast.ImportFrom)} for path, source in sources().items()}
        self.assertEqual(drawn["__init__"], set())
        settled = set()
        while len(settled) < len(drawn):
            ready = {name for name, others in drawn.items() if others <= settled} - settled
            self.assertNotEqual(ready, set(), sorted(set(drawn) - settled))
            settled |= ready

    def test_the_top_of_a_file(self):
        def judge(source, tree):
            names = [node.name for node in tree.body if isinstance(node, (ast.FunctionDef, ast.ClassDef))]
            for node in tree.body[1:]:
                self.assertIsInstance(node, (ast.ImportFrom, ast.FunctionDef, ast.ClassDef, ast.Assign))
                if isinstance(node, ast.Assign):
                    names.append(node.targets[0].id)
                    for part in ast.walk(node.value):
                        self.assertNotIsInstance(part, (ast.Call, ast.BinOp, ast.ListComp, ast.Set))
            self.assertIsInstance(tree.body[0].value.value, str)
            self.assertEqual(len(names), len(set(names)))

        self.each(judge)

    def test_locals_are_not_called_like_classes_or_imports(self):
        def judge(source, tree):
            taken = [name for node in tree.body if isinstance(node, ast.ImportFrom) for name in bound_names(node)]
            taken += [node.name for node in tree.body if isinstance(node, ast.ClassDef)]
            for node in ast.walk(tree):
                if isinstance(node, ast.FunctionDef):
                    within = [part.arg for part in ast.walk(node) if isinstance(part, ast.arg)]
                    within += [part.id for part in ast.walk(node)
                               if isinstance(part, ast.Name) and isinstance(part.ctx, ast.Store)]
                    self.assertEqual(set(within) & set(taken), set(), node.name)

        self.each(judge)

    def test_walked_at_once(self):
        def judge(source, tree):
            on_the_spot = []
            for node in ast.walk(tree):
                if isinstance(node, (ast.For, ast.comprehension)):
                    on_the_spot.append(node.iter)
                elif isinstance(node, ast.Call) and isinstance(node.func, ast.Name) and node.args:
                    if node.func.id in ("list", "tuple", "dict", "sorted", "sum", "any", "all", "enumerate", "zip"):
                        on_the_spot.append(node.args[0])
                    elif node.func.id in ("min", "max") and len(node.args) == 1:
                        on_the_spot.append(node.args[0])
            for node in ast.walk(tree):
                if isinstance(node, ast.Call):
                    called = getattr(node.func, "id", None) or getattr(node.func, "attr", None)
                    if called in ("zip", "enumerate", "reversed", "range", "items", "keys", "values"):
                        self.assertTrue(any(node is spot for spot in on_the_spot), node.lineno)

        self.each(judge)

    def test_sets_are_only_asked(self):
        def judge(source, tree):
            asked = []
            for node in ast.walk(tree):
                if isinstance(node, ast.Compare):
                    asked += [node.left] + node.comparators
                elif isinstance(node, ast.Call) and getattr(node.func, "id", None) in ("len", "sorted"):
                    asked += node.args
            for node in ast.walk(tree):
                self.assertNotIsInstance(node, ast.Set)
                if isinstance(node, ast.Call) and getattr(node.func, "id", None) in ("set", "frozenset"):
                    self.assertTrue(any(node is spot for spot in asked), node.lineno)

        self.each(judge)

    def test_is_and_texts_with_names(self):
        def judge(source, tree):
            for node in ast.walk(tree):
                if isinstance(node, ast.Compare):
                    for op, part in zip(node.ops, node.comparators):
                        if isinstance(op, (ast.Is, ast.IsNot)):
                            self.assertIn(getattr(part, "value", "none"), (None, True, False))
                if isinstance(node, ast.FormattedValue):
                    self.assertIsInstance(node.value, ast.Name)
                    self.assertIsNone(node.format_spec)
                if isinstance(node, ast.ListComp):
                    self.assertEqual(len(node.generators), 1)
                    self.assertLessEqual(len(node.generators[0].ifs), 1)

        self.each(judge)

    def test_what_is_walked_is_not_changed(self):
        changes = ("append", "clear", "extend", "insert", "pop", "remove", "reverse", "setdefault", "update")

        def judge(source, tree):
            for loop in [node for node in ast.walk(tree) if isinstance(node, ast.For)]:
                walked = {ast.unparse(part) for part in ast.walk(loop.iter)
                          if isinstance(part, (ast.Name, ast.Attribute, ast.Subscript))}
                if isinstance(loop.iter, ast.Call) and getattr(loop.iter.func, "id", None) in ("range", "list", "sorted"):
                    continue
                for node in [part for row in loop.body for part in ast.walk(row)]:
                    if isinstance(node, ast.Call) and getattr(node.func, "attr", None) in changes:
                        self.assertNotIn(ast.unparse(node.func.value), walked, node.lineno)
                    if isinstance(node, ast.Subscript) and isinstance(node.ctx, ast.Store):
                        self.assertNotIn(ast.unparse(node.value), walked, node.lineno)

        self.each(judge)

    def test_names(self):
        def judge(source, tree):
            bound = bound_names(tree)
            for name in bound:
                self.assertTrue(name in DUNDERS or re.fullmatch("[A-Za-z][A-Za-z0-9_]*", name), name)
                self.assertNotIn(name, dir(builtins))
            for node in ast.walk(tree):
                if isinstance(node, ast.Name) and isinstance(node.ctx, ast.Load):
                    self.assertIn(node.id, bound + BUILTINS)

        self.each(judge)

    def test_methods(self):
        trees = [ast.parse(source) for source in sources().values()]
        classes = [node for tree in trees for node in tree.body if isinstance(node, ast.ClassDef)]
        own = [part.name for node in classes for part in node.body if isinstance(part, ast.FunctionDef)]
        stored = [node.attr for tree in trees for node in ast.walk(tree)
                  if isinstance(node, ast.Attribute) and isinstance(node.ctx, ast.Store)]
        self.assertEqual(set(own) & set(stored), set())
        for tree in trees:
            for node in ast.walk(tree):
                if isinstance(node, ast.Call) and isinstance(node.func, ast.Attribute):
                    self.assertIn(node.func.attr, METHODS + own)


if __name__ == "__main__":
    unittest.main()
