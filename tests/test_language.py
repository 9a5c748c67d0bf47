"""The package's files keep to the small part of Python that the program is written in.

What can be told by going through a file's tree and its words is asked here, in places more
strictly than the rules are, where the program has no need of what they allow.
"""

import ast
import builtins
import keyword
import pathlib
import re
import unittest

PACKAGE = pathlib.Path(__file__).resolve().parent.parent / "postclear"

OWN_NAMES = set("""len range enumerate zip min max sum abs sorted reversed int str bool list tuple dict set frozenset
    isinstance ord repr any all divmod Exception ValueError TypeError KeyError IndexError LookupError
    ZeroDivisionError ArithmeticError OverflowError RuntimeError NotImplementedError AttributeError
    StopIteration""".split())
VALUE_METHODS = set("""append clear copy count endswith extend find get index insert isalnum isalpha isdigit islower
    isspace isupper items join keys ljust lower lstrip partition pop remove replace reverse rfind rjust rpartition
    rsplit rstrip setdefault split splitlines startswith strip update upper values zfill bit_length""".split())
STATEMENTS = (ast.Assign, ast.AugAssign, ast.If, ast.While, ast.For, ast.Return, ast.Break, ast.Continue, ast.Pass,
              ast.Raise, ast.Try, ast.Expr, ast.FunctionDef, ast.ClassDef, ast.ImportFrom)
EXPRESSIONS = (ast.BinOp, ast.UnaryOp, ast.BoolOp, ast.Compare, ast.Call, ast.Attribute, ast.Subscript, ast.Slice,
               ast.ListComp, ast.IfExp, ast.Lambda, ast.Constant, ast.Name, ast.List, ast.Tuple, ast.Dict, ast.Set,
               ast.JoinedStr, ast.FormattedValue)
PLAIN_VALUES = (ast.Constant, ast.UnaryOp, ast.USub, ast.List, ast.Tuple, ast.Dict, ast.Name, ast.Load)
UNUSED_WORDS = set("""type typing typing_extensions enum Enum IntEnum StrEnum Flag IntFlag Generic Protocol ABC ABCMeta
    namedtuple NamedTuple TypedDict TYPE_CHECKING abstractmethod""".split())
UNUSED_NAMES = set("""register mro elements open input version_info with_traceback add_note attrgetter breakpoint
    builtins compile copyright credits delattr dir eval exec exit gc getattr globals hasattr help id importlib license
    locals methodcaller os quit setattr super type vars sys chr print""".split())
WALKED_AT_ONCE = ("zip", "enumerate", "reversed", "range")
WALKERS = ("list", "tuple", "dict", "sorted", "sum", "any", "all", "enumerate", "zip", "min", "max")
CHANGES = ("append", "clear", "extend", "insert", "pop", "remove", "reverse", "setdefault", "update")


def value_attributes():
    names = set()
    for value in ("", 0, [], {}, set(), b"", (), False):
        names |= {name for name in dir(value) if not name.startswith("__")}
    return names


class File:
    def __init__(self, path):
        self.path = path
        self.source = path.read_text(encoding="utf-8")
        self.tree = ast.parse(self.source)
        self.nodes = list(ast.walk(self.tree))

    def of(self, *kinds):
        return [node for node in self.nodes if isinstance(node, kinds)]

    def module(self):
        parts = list(self.path.relative_to(PACKAGE.parent).with_suffix("").parts)
        return ".".join(parts[:-1] if parts[-1] == "__init__" else parts)

    def top_names(self):
        names = []
        for node in self.tree.body:
            if isinstance(node, ast.Assign):
                names += [target.id for target in node.targets]
            elif isinstance(node, ast.ImportFrom):
                names += [alias.asname or alias.name for alias in node.names]
            elif isinstance(node, (ast.FunctionDef, ast.ClassDef)):
                names.append(node.name)
        return names

    def locals(self):
        stored = [node.id for node in self.of(ast.Name) if isinstance(node.ctx, ast.Store)]
        parameters = [node.arg for node in self.of(ast.arg)]
        return (set(stored) | set(parameters)) - set(self.top_names())


class Language(unittest.TestCase):
    @classmethod
    def setUpClass(cls):
        cls.paths = [path for path in sorted(PACKAGE.rglob("*")) if "__pycache__" not in path.parts]
        cls.files = [File(path) for path in cls.paths if path.suffix == ".py"]
        cls.methods = set()
        cls.values = set()
        for file in cls.files:
            for node in file.of(ast.ClassDef):
                cls.methods |= {part.name for part in node.body if isinstance(part, ast.FunctionDef)}
            cls.values |= {node.attr for node in file.of(ast.Attribute) if isinstance(node.ctx, ast.Store)}

    def test_each_file_by_each_rule(self):
        rules = [name for name in dir(self) if name.startswith("rule_")]
        self.assertGreater(len(rules), 10)
        for file in self.files:
            for rule in rules:
                with self.subTest(file=file.path.name, rule=rule):
                    getattr(self, rule)(file)

    def assert_none(self, found):
        self.assertEqual([ast.unparse(node) for node in found], [])

    def test_files(self):
        self.assertGreater(len(self.files), 1)
        for path in self.paths:
            self.assertTrue(path.is_dir() or path.suffix == ".py", path)
            self.assertRegex(path.stem, r"\A[a-z0-9_]+\Z")
            self.assertNotRegex(path.stem, r"\A(tests?|testing|test_.*|site|conftest|(site|user)customize)\Z")
            self.assertNotIn(path.stem, UNUSED_WORDS | set(dir(builtins)))

    def rule_signs_and_sizes(self, file):
        self.assertRegex(file.source, r"\A[ -~\n]*\Z")
        lines = file.source.split("\n")
        self.assertLessEqual(len(lines), 400)
        self.assertLessEqual(max(len(line) for line in lines), 120)
        for node in file.of(ast.FunctionDef):
            self.assertLessEqual(node.end_lineno - node.lineno + 1, 40, node.name)

    def rule_words_that_stand_nowhere(self, file):
        self.assertEqual(set(re.findall(r"\w+", file.source)) & UNUSED_WORDS, set())
        self.assertNotRegex(file.source, "dataclass|overload|contextmanager")

    def rule_imports(self, file):
        self.assert_none(file.of(ast.Import))
        bodies = {other.module(): other.tree.body for other in self.files}
        for node in file.of(ast.ImportFrom):
            self.assertEqual((node.level, node.col_offset), (0, 0))
            self.assertIn(node.module, bodies)
            defined = {top.name for top in bodies[node.module] if isinstance(top, (ast.FunctionDef, ast.ClassDef))}
            for top in bodies[node.module]:
                if isinstance(top, ast.Assign):
                    defined.add(top.targets[0].id)
            self.assertLessEqual({alias.name for alias in node.names}, defined)

    def test_no_two_files_draw_from_one_another(self):
        drawn = {file.module(): {node.module for node in file.of(ast.ImportFrom)} for file in self.files}
        left = dict(drawn)
        while left:
            free = [module for module in left if not left[module] & set(left)]
            self.assertTrue(free, left)
            left = {module: left[module] for module in left if module not in free}

    def rule_the_top_of_a_file(self, file):
        for node in file.tree.body:
            if isinstance(node, ast.Assign):
                found = [part for part in ast.walk(node.value) if not isinstance(part, PLAIN_VALUES)]
                self.assert_none(found)
                inner = [part for part in ast.walk(node.value) if part is not node.value]
                self.assert_none([part for part in inner if isinstance(part, (ast.List, ast.Dict))])
            elif isinstance(node, ast.Expr):
                self.assertIs(node, file.tree.body[0])
            else:
                self.assertIsInstance(node, (ast.ImportFrom, ast.FunctionDef, ast.ClassDef))
        names = file.top_names()
        self.assertEqual(len(names), len(set(names)))

    def rule_statements_and_expressions(self, file):
        self.assert_none([node for node in file.of(ast.stmt) if not isinstance(node, STATEMENTS)])
        self.assert_none([node for node in file.of(ast.expr) if not isinstance(node, EXPRESSIONS)])
        self.assert_none([node for node in file.of(ast.Assign)
                          if len(node.targets) != 1 or isinstance(node.targets[0], (ast.Tuple, ast.List))])
        self.assert_none([node for node in file.of(ast.For, ast.While) if node.orelse])
        self.assert_none([node for node in file.of(ast.Try) if node.finalbody])
        self.assertEqual(file.of(ast.Div, ast.MatMult), [])
        for node in file.of(ast.Constant):
            self.assertNotIsInstance(node.value, (float, complex, bytes))
            self.assertIsNot(node.value, ...)
        for node in file.of(ast.ListComp):
            self.assertEqual(len(node.generators), 1)
            self.assertLessEqual(len(node.generators[0].ifs), 1)
        self.assertEqual(file.of(ast.Pow), [])

    def rule_functions_and_classes(self, file):
        for node in file.of(ast.FunctionDef):
            self.assertEqual(node.decorator_list, [])
            given = node.args
            self.assertEqual((given.vararg, given.kwarg, given.kwonlyargs, given.posonlyargs),
                             (None, None, [], []))
            self.assertIsNone(node.returns)
            self.assertEqual([arg.annotation for arg in given.args if arg.annotation], [])
        for node in file.of(ast.ClassDef):
            self.assertIn(node, file.tree.body)
            self.assertEqual((node.decorator_list, node.keywords), ([], []))
            self.assertLessEqual(len(node.bases), 1)
            for part in node.body:
                self.assertIsInstance(part, (ast.FunctionDef, ast.Expr))

    def rule_names(self, file):
        bound = set(file.top_names()) | file.locals()
        bound |= {node.attr for node in file.of(ast.Attribute)}
        for name in bound:
            self.assertRegex(name, r"\A[A-Za-z][A-Za-z0-9_]*\Z")
        self.assertEqual(bound & UNUSED_NAMES, set())
        self.assertEqual((set(file.top_names()) | file.locals()) & set(dir(builtins)), set())
        methods = {part.name for node in file.of(ast.ClassDef) for part in node.body
                   if isinstance(part, ast.FunctionDef)}
        for name in methods:
            self.assertRegex(name, r"\A(__init__|__eq__|__repr__|__str__|__len__|[A-Za-z][A-Za-z0-9_]*)\Z")
        self.assertFalse(any(keyword.iskeyword(name) for name in bound))

    def rule_no_local_bears_the_name_of_a_thing_of_the_top(self, file):
        tops = set(file.top_names())
        for node in file.of(ast.FunctionDef):
            inside = {part.id for part in ast.walk(node)
                      if isinstance(part, ast.Name) and isinstance(part.ctx, ast.Store)}
            inside |= {arg.arg for arg in node.args.args}
            self.assertEqual(inside & tops, set(), node.name)

    def rule_names_of_pythons_own(self, file):
        known = set(file.top_names()) | file.locals() | OWN_NAMES
        read = {node.id for node in file.of(ast.Name)}
        self.assertEqual(read - known, set())

    def rule_is_stands_beside_none_true_and_false(self, file):
        for node in file.of(ast.Compare):
            for sign, side in zip(node.ops, node.comparators):
                if isinstance(sign, (ast.Is, ast.IsNot)):
                    self.assertIsInstance(side, ast.Constant)
                    self.assertIn(side.value, (None, True, False))

    def test_methods_and_values_of_objects(self):
        self.assertEqual(self.methods & self.values, set())
        self.assertEqual((self.methods | self.values) & value_attributes(), set())

    def rule_methods_are_known_and_stand_once(self, file):
        for node in file.of(ast.ClassDef):
            names = [part.name for part in node.body if isinstance(part, ast.FunctionDef)]
            self.assertEqual(len(names), len(set(names)), node.name)
        read = {node.attr for node in file.of(ast.Attribute)}
        self.assertEqual(read - self.methods - self.values - VALUE_METHODS, set())

    def rule_what_a_files_top_keeps_is_only_read(self, file):
        kept = {node.targets[0].id for node in file.tree.body
                if isinstance(node, ast.Assign) and isinstance(node.value, (ast.List, ast.Dict))}
        read_by_index = [node.value for node in file.of(ast.Subscript) if isinstance(node.ctx, ast.Load)]
        walked = [node.iter for node in file.of(ast.For, ast.comprehension)]
        asked = [side for node in file.of(ast.Compare) for side in node.comparators]
        for node in file.of(ast.Name):
            if node.id in kept and isinstance(node.ctx, ast.Load):
                self.assertIn(node, read_by_index + walked + asked)

    def rule_what_is_walked_at_once(self, file):
        walked = [node.iter for node in file.of(ast.For, ast.comprehension)]
        walked += [node.args[0] for node in file.of(ast.Call)
                   if node.args and isinstance(node.func, ast.Name) and node.func.id in WALKERS]
        for node in file.of(ast.Call):
            if isinstance(node.func, ast.Name) and node.func.id in WALKED_AT_ONCE:
                self.assertIn(node, walked)

    def rule_what_a_loop_walks_is_not_changed_in_it(self, file):
        for loop in file.of(ast.For):
            walked = {ast.unparse(part) for part in ast.walk(loop.iter)
                      if isinstance(part, (ast.Name, ast.Attribute))}
            for node in [part for line in loop.body for part in ast.walk(line)]:
                if isinstance(node, ast.Attribute) and node.attr in CHANGES:
                    self.assertNotIn(ast.unparse(node.value), walked)
                if isinstance(node, ast.Subscript) and isinstance(node.ctx, ast.Store):
                    self.assertNotIn(ast.unparse(node.value), walked)


if __name__ == "__main__":
    unittest.main()
