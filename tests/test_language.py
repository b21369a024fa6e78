"""The package keeps to its small part of Python: what of LANGUAGE.md can be seen in the files by a walk."""

import ast
import builtins
import keyword
import pathlib
import re
import sys
import unittest

import partedwordsdesk

PACKAGE = pathlib.Path(partedwordsdesk.__file__).parent
FILES = sorted(path for path in PACKAGE.rglob("*") if path.is_file() and "__pycache__" not in path.parts)

NODES = """Module FunctionDef ClassDef arguments arg Expr Assign AugAssign If While For Return Break Continue Pass
Raise Try ExceptHandler ImportFrom alias Name Attribute Subscript Slice Constant List Tuple Dict Set BinOp UnaryOp
BoolOp Compare IfExp Call ListComp comprehension JoinedStr FormattedValue Lambda keyword Load Store Add Sub Mult
FloorDiv Mod Pow BitAnd BitOr BitXor LShift RShift Invert USub UAdd Not And Or Eq NotEq Lt LtE Gt GtE Is IsNot In
NotIn""".split()
OWN = """len range enumerate zip min max sum abs sorted reversed int str bool list tuple dict set frozenset isinstance
ord repr any all divmod Exception ValueError TypeError KeyError IndexError LookupError ZeroDivisionError
ArithmeticError OverflowError RuntimeError NotImplementedError AttributeError StopIteration""".split()
METHODS = """append clear copy count endswith extend find get index insert isalnum isalpha isdigit islower isspace
isupper items join keys ljust lower lstrip partition pop remove replace reverse rfind rjust rpartition rsplit rstrip
setdefault split splitlines startswith strip update upper values zfill bit_length""".split()
BANNED = """register mro elements open input version_info with_traceback add_note attrgetter breakpoint builtins
compile copyright credits delattr dir eval exec exit gc getattr globals hasattr help id importlib license locals
methodcaller os quit setattr super type vars sys typing typing_extensions enum Enum IntEnum StrEnum Flag IntFlag
Generic Protocol ABC ABCMeta namedtuple NamedTuple TypedDict TYPE_CHECKING abstractmethod dataclass overload
contextmanager chr print format format_map""".split()
VALUES = (str, int, float, list, dict, set, bytes, frozenset, tuple)
TAKEN = {name for kind in VALUES for name in dir(kind)}


def parsed():
    return [(path, ast.parse(path.read_text(encoding="ascii"))) for path in FILES]


def nodes(kind):
    """All nodes of a kind in the package, each with where it stands."""
    for path, tree in parsed():
        for node in ast.walk(tree):
            if isinstance(node, kind):
                yield node, f"{path.name}:{getattr(node, 'lineno', 0)}"


def bound_at_top(tree):
    names = []
    for node in tree.body:
        if isinstance(node, (ast.FunctionDef, ast.ClassDef)):
            names.append(node.name)
        elif isinstance(node, ast.ImportFrom):
            names += [one.name for one in node.names]
        elif isinstance(node, ast.Assign):
            names += [one.id for one in node.targets]
    return names


def is_plain(node):
    """Whether a value at a file's top is a plain one."""
    if isinstance(node, ast.UnaryOp):
        return isinstance(node.op, ast.USub) and is_plain(node.operand)
    if isinstance(node, ast.Tuple):
        return all(is_plain(one) for one in node.elts)
    return isinstance(node, ast.Constant) and isinstance(node.value, (int, str, type(None)))


class Files(unittest.TestCase):
    def test_names_and_signs(self):
        self.assertGreater(len(FILES), 1)
        for path in FILES:
            self.assertRegex(path.name, r"^(__init__|[a-z][a-z0-9_]*)\.py$")
            self.assertNotIn(path.stem, set(dir(builtins)) | set(sys.stdlib_module_names) | set(BANNED))
            self.assertFalse(re.match(r"(tests?|testing|site|conftest|sitecustomize|usercustomize)$|test_", path.stem))
            self.assertRegex(path.read_bytes(), rb"\A[ -~\n]*\Z", path.name)

    def test_sizes(self):
        for path in FILES:
            lines = path.read_text().split("\n")
            self.assertLess(len(lines), 400, path.name)
            self.assertLessEqual(max(len(line) for line in lines), 120, path.name)
        for node, where in nodes(ast.FunctionDef):
            self.assertLessEqual(node.end_lineno - node.lineno + 1, 40, where)

    def test_the_interface(self):
        tree = ast.parse((PACKAGE / "patterns.py").read_text())
        found = [node for node in tree.body if isinstance(node, ast.FunctionDef) and node.name == "answers"]
        self.assertEqual([arg.arg for arg in found[0].args.args], ["calls"])
        for path, other in parsed():
            if path.stem != "patterns":
                self.assertNotIn("answers", bound_at_top(other), path.name)


class Tops(unittest.TestCase):
    def test_what_stands_at_the_top(self):
        for path, tree in parsed():
            self.assertTrue(ast.get_docstring(tree), path.name)
            for node in tree.body[1:]:
                self.assertIsInstance(node, (ast.ImportFrom, ast.FunctionDef, ast.ClassDef, ast.Assign), path.name)
                if isinstance(node, ast.Assign):
                    self.assertTrue(is_plain(node.value), f"{path.name}:{node.lineno}")
            names = bound_at_top(tree)
            self.assertEqual(len(names), len(set(names)), path.name)

    def test_imports(self):
        trees = {path.stem: tree for path, tree in parsed()}
        draws = {stem: set() for stem in trees}
        for stem, tree in trees.items():
            for node in ast.walk(tree):
                if isinstance(node, ast.ImportFrom):
                    package, name = node.module.split(".")
                    self.assertEqual((package, node.level), ("partedwordsdesk", 0))
                    draws[stem].add(name)
                    for one in node.names:
                        self.assertIsNone(one.asname)
                        defined = [n for n in trees[name].body if not isinstance(n, ast.ImportFrom)]
                        self.assertIn(one.name, bound_at_top(ast.Module(defined, [])))
        while draws:
            free = [stem for stem in draws if not draws[stem] & set(draws)]
            self.assertTrue(free, "files draw from one another")
            draws = {stem: draws[stem] for stem in draws if stem not in free}


class Forms(unittest.TestCase):
    def test_kinds_of_nodes(self):
        for node, where in nodes(ast.AST):
            self.assertIn(type(node).__name__, NODES, where)

    def test_statements(self):
        for node, where in nodes((ast.For, ast.While)):
            self.assertEqual(node.orelse, [], where)
        for node, where in nodes(ast.Try):
            self.assertEqual(node.finalbody, [], where)
        for node, where in nodes(ast.Assign):
            self.assertEqual(len(node.targets), 1, where)
        for node, where in nodes(ast.Expr):
            if not isinstance(node.value, ast.Call):
                self.assertIsInstance(node.value.value, str, where)
        for node, where in nodes(ast.ExceptHandler):
            self.assertIsInstance(node.type, ast.Name, where)

    def test_functions(self):
        for node, where in nodes(ast.FunctionDef):
            self.assertEqual(node.decorator_list, [], where)
            self.assertIsNone(node.returns, where)
            args = node.args
            self.assertEqual((args.posonlyargs, args.kwonlyargs, args.vararg, args.kwarg), ([], [], None, None), where)
        for node, where in nodes(ast.ClassDef):
            self.assertLessEqual(len(node.bases), 1, where)
            self.assertEqual((node.decorator_list, node.keywords), ([], []), where)
            for one in node.body[1:]:
                self.assertIsInstance(one, ast.FunctionDef, where)

    def test_values(self):
        for node, where in nodes(ast.Constant):
            self.assertIsInstance(node.value, (int, str, type(None)), where)
            if isinstance(node.value, str):
                self.assertNotIn("%", node.value, where)
        for node, where in nodes(ast.Compare):
            for sign, value in zip(node.ops, node.comparators):
                if isinstance(sign, (ast.Is, ast.IsNot)):
                    self.assertIsInstance(value, ast.Constant, where)
        for node, where in nodes(ast.FormattedValue):
            self.assertIsInstance(node.value, ast.Name, where)
        for node, where in nodes(ast.ListComp):
            self.assertEqual(len(node.generators), 1, where)
            self.assertLessEqual(len(node.generators[0].ifs), 1, where)


class Names(unittest.TestCase):
    def test_plain_and_free(self):
        taken = set(dir(builtins)) | set(keyword.softkwlist) | set(BANNED)
        for path, tree in parsed():
            top = set(bound_at_top(tree))
            for node in ast.walk(tree):
                if isinstance(node, ast.FunctionDef):
                    bound = {arg.arg for arg in node.args.args}
                    bound |= {n.id for n in ast.walk(node) if isinstance(n, ast.Name) and isinstance(n.ctx, ast.Store)}
                    bound |= {n.name for n in ast.walk(node) if isinstance(n, ast.ExceptHandler) and n.name}
                    self.assertEqual(bound & (top | taken), set(), f"{path.name}:{node.lineno}")
                    for name in bound | {node.name.strip("_")}:
                        self.assertRegex(name, r"^[A-Za-z][A-Za-z0-9_]*$")

    def test_names_used_are_bound_or_allowed(self):
        for path, tree in parsed():
            bound = set(bound_at_top(tree)) | set(OWN)
            for node in ast.walk(tree):
                if isinstance(node, ast.arg):
                    bound.add(node.arg)
                elif isinstance(node, ast.Name) and isinstance(node.ctx, ast.Store):
                    bound.add(node.id)
                elif isinstance(node, ast.ExceptHandler) and node.name:
                    bound.add(node.name)
            used = {node.id for node in ast.walk(tree) if isinstance(node, ast.Name)}
            self.assertEqual(used - bound, set(), path.name)

    def test_banned_words(self):
        for kind, name in ((ast.Name, "id"), (ast.Attribute, "attr"), (ast.FunctionDef, "name"), (ast.arg, "arg")):
            for node, where in nodes(kind):
                self.assertNotIn(getattr(node, name), BANNED, where)

    def test_methods_and_values(self):
        methods = {node.name for cls, where in nodes(ast.ClassDef) for node in cls.body[1:]}
        values = {node.attr for node, where in nodes(ast.Attribute) if isinstance(node.ctx, ast.Store)}
        self.assertEqual(methods & values, set())
        self.assertEqual(((methods - {"__init__"}) | values) & TAKEN, set())
        called = set()
        for node, where in nodes(ast.Call):
            if isinstance(node.func, ast.Attribute):
                called.add(node.func.attr)
        self.assertEqual(called - methods - set(METHODS), set())
        read = {node.attr for node, where in nodes(ast.Attribute)}
        self.assertEqual(read - values - methods - set(METHODS), set())


if __name__ == "__main__":
    unittest.main()
