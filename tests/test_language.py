"""What a script can see of the part of Python that the package keeps to."""

import ast
import pathlib
import re
import unittest

PACKAGE = pathlib.Path(__file__).resolve().parent.parent / "loomlook"

OWN_NAMES = """len range enumerate zip min max sum abs sorted reversed int str bool list tuple dict set frozenset
isinstance ord repr any all divmod Exception ValueError TypeError KeyError IndexError LookupError ZeroDivisionError
ArithmeticError OverflowError RuntimeError NotImplementedError AttributeError StopIteration""".split()

METHODS = """append clear copy count endswith extend find get index insert isalnum isalpha isdigit islower isspace
isupper items join keys ljust lower lstrip partition pop remove replace reverse rfind rjust rpartition rsplit rstrip
setdefault split splitlines startswith strip update upper values zfill bit_length""".split()

NO_WORDS = """type typing typing_extensions enum Enum IntEnum StrEnum Flag IntFlag Generic Protocol ABC ABCMeta
namedtuple NamedTuple TypedDict TYPE_CHECKING abstractmethod""".split()
NO_PIECES = ["dataclass", "overload", "contextmanager"]

NO_NAMES = """register mro elements open input version_info with_traceback add_note attrgetter breakpoint builtins
compile copyright credits delattr dir eval exec exit gc getattr globals hasattr help id importlib license locals
methodcaller os quit setattr super sys vars __name__ format format_map""".split()

UNDERSCORED = ["__init__", "__eq__", "__repr__", "__str__", "__len__", "__all__", "__version__"]

# No method and no value of an object is called like one of theirs (L26, held narrower here).
PLAIN_KINDS = (str, int, list, dict, set, bytes, tuple)

STATEMENTS = (ast.Assign, ast.AugAssign, ast.If, ast.While, ast.For, ast.Return, ast.Break, ast.Continue, ast.Pass,
              ast.Raise, ast.Try, ast.Expr, ast.FunctionDef, ast.ClassDef, ast.ImportFrom)
NO_NODES = (ast.SetComp, ast.DictComp, ast.GeneratorExp, ast.NamedExpr, ast.Starred, ast.Div, ast.Yield,
            ast.YieldFrom, ast.Await, ast.MatMult)


def faults_of_files(folder):
    """L1 and L14: what lies in the package's folder."""
    found = []
    for path in sorted(folder.rglob("*")):
        if "__pycache__" in path.parts:
            continue
        if path.is_dir() or re.fullmatch(r"[a-z][a-z0-9_]*\.py|__init__\.py|__main__\.py", path.name) is None:
            found.append(("L1", path.name))
        elif re.fullmatch(r"(test|tests|testing|test_.*|site|conftest|sitecustomize|usercustomize)\.py", path.name):
            found.append(("L14", path.name))
    if not (folder / "__init__.py").is_file():
        found.append(("L14", "__init__.py"))
    return found


def faults_of_signs(text):
    """L10, L14, L17: what can be seen without reading the text as Python."""
    found = []
    rows = text.split("\n")
    if len(rows) > 401 or (len(rows) == 401 and rows[-1] != ""):
        found.append(("L10", len(rows)))
    for number, row in enumerate(rows, start=1):
        if len(row) > 120 or "\t" in row:
            found.append(("L10", number))
        if any(not " " <= sign <= "~" for sign in row):
            found.append(("L14", number))
        words = re.findall(r"[A-Za-z0-9_]+", row)
        if any(word in NO_WORDS for word in words) or any(piece in row for piece in NO_PIECES):
            found.append(("L17", number))
    return found


def bound_names(tree):
    names = set()
    for node in ast.walk(tree):
        if isinstance(node, ast.Name) and isinstance(node.ctx, ast.Store):
            names.add(node.id)
        elif isinstance(node, (ast.FunctionDef, ast.ClassDef)):
            names.add(node.name)
        elif isinstance(node, ast.arg):
            names.add(node.arg)
        elif isinstance(node, ast.ImportFrom):
            names.update(alias.name for alias in node.names)
        elif isinstance(node, ast.ExceptHandler) and node.name is not None:
            names.add(node.name)
    return names


def is_plain_piece(piece):
    """L7: what may stand within an f-string's braces."""
    return isinstance(piece.value, ast.Name) and piece.conversion in (-1, ord("r")) and piece.format_spec is None


def faults_of_node(node, bound):
    line = getattr(node, "lineno", 0)
    if isinstance(node, ast.FunctionDef):
        arguments = node.args
        if node.end_lineno - node.lineno + 1 > 40:
            yield ("L10", line)
        if node.decorator_list or arguments.vararg or arguments.kwarg or arguments.kwonlyargs or arguments.posonlyargs:
            yield ("L4", line)
    if isinstance(node, ast.ClassDef) and (node.decorator_list or node.keywords or len(node.bases) > 1):
        yield ("L5", line)
    if isinstance(node, ast.stmt) and not isinstance(node, STATEMENTS):
        yield ("L6", line)
    if isinstance(node, (ast.For, ast.While)) and node.orelse or isinstance(node, ast.Try) and node.finalbody:
        yield ("L6", line)
    if isinstance(node, ast.Assign) and len(node.targets) > 1:
        yield ("L6", line)
    if isinstance(node, NO_NODES) or isinstance(node, ast.Constant) and isinstance(node.value, (float, bytes, complex)):
        yield ("L7", line)
    if isinstance(node, ast.ListComp) and (len(node.generators) > 1 or len(node.generators[0].ifs) > 1):
        yield ("L7", line)
    if isinstance(node, ast.FormattedValue) and not is_plain_piece(node):
        yield ("L7", line)
    if isinstance(node, ast.Name) and isinstance(node.ctx, ast.Load) and node.id not in bound | set(OWN_NAMES):
        yield ("L8", line)
    if isinstance(node, ast.Name) and node.id in NO_NAMES or isinstance(node, ast.Attribute) and node.attr in NO_NAMES:
        yield ("L17", line)
    if isinstance(node, ast.Compare) and any(isinstance(sign, (ast.Is, ast.IsNot)) for sign in node.ops):
        if not all(isinstance(side, ast.Constant) and side.value in (None, True, False) for side in node.comparators):
            yield ("L20", line)


def faults_of_imports(tree, package):
    for node in ast.walk(tree):
        if isinstance(node, ast.ImportFrom):
            ours = node.level == 0 and (node.module or "").startswith(package + ".")
            if not ours or any(alias.name == "*" or alias.asname for alias in node.names) or node not in tree.body:
                yield ("L2", node.lineno)


def faults_of_names(tree):
    taken = set(dir(__builtins__) if not isinstance(__builtins__, dict) else __builtins__)
    for name in sorted(bound_names(tree)):
        if name.startswith("_") and name not in UNDERSCORED or not name.isascii():
            yield ("L12", name)
        if name in taken:
            yield ("L15", name)


def faults_of_top(tree):
    """L3 and L15: what stands at a file's top, each name once."""
    seen = []
    for place, node in enumerate(tree.body):
        if isinstance(node, ast.Expr) and place == 0 and isinstance(node.value, ast.Constant):
            continue
        if isinstance(node, (ast.FunctionDef, ast.ClassDef)):
            seen.append(node.name)
        elif isinstance(node, ast.ImportFrom):
            seen.extend(alias.name for alias in node.names)
        elif isinstance(node, ast.Assign) and isinstance(node.targets[0], ast.Name):
            seen.append(node.targets[0].id)
        else:
            yield ("L3", node.lineno)
    if len(set(seen)) < len(seen):
        yield ("L15", 0)


def methods_and_values(tree):
    """The names of the methods, and of the values given to objects, in a file's classes."""
    methods = set()
    values = set()
    for node in ast.walk(tree):
        if isinstance(node, ast.ClassDef):
            methods.update(each.name for each in node.body if isinstance(each, ast.FunctionDef))
        elif isinstance(node, ast.Attribute) and isinstance(node.ctx, ast.Store):
            values.add(node.attr)
    return methods, values


def faults_of_text(text, package="loomlook", own_methods=()):
    tree = ast.parse(text)
    found = faults_of_signs(text) + list(faults_of_imports(tree, package))
    found = found + list(faults_of_names(tree)) + list(faults_of_top(tree))
    bound = bound_names(tree)
    methods = METHODS + list(own_methods)
    for node in ast.walk(tree):
        found.extend(faults_of_node(node, bound))
        if isinstance(node, ast.Call) and isinstance(node.func, ast.Attribute) and node.func.attr not in methods:
            found.append(("L25", node.lineno))
    return found


def drawn_from(folder):
    """For each module of the package the modules that it draws from."""
    drawn = {}
    for path in sorted(folder.glob("*.py")):
        tree = ast.parse(path.read_text(encoding="utf-8"))
        rows = [node for node in ast.walk(tree) if isinstance(node, ast.ImportFrom)]
        drawn["loomlook." + path.stem] = [node.module for node in rows]
    return drawn


class PackageTest(unittest.TestCase):
    def test_files(self):
        self.assertEqual(faults_of_files(PACKAGE), [])

    def test_texts(self):
        paths = sorted(PACKAGE.glob("*.py"))
        self.assertGreaterEqual(len(paths), 19)
        for path in paths:
            with self.subTest(path.name):
                text = path.read_bytes().decode("utf-8")
                self.assertEqual(faults_of_text(text, own_methods=self.methods_and_values()[0]), [])

    def methods_and_values(self):
        pairs = [methods_and_values(ast.parse(path.read_text(encoding="utf-8"))) for path in PACKAGE.glob("*.py")]
        return tuple(set().union(*names) for names in zip(*pairs))

    def test_no_name_is_a_method_and_a_value(self):
        methods, values = self.methods_and_values()
        self.assertIn("next_step", methods)
        self.assertIn("programs", values)
        self.assertEqual(methods & values, set())
        self.assertEqual([name for name in methods | values if any(hasattr(kind, name) for kind in PLAIN_KINDS)],
                         ["__init__"])

    def test_no_two_files_draw_from_one_another(self):
        drawn = drawn_from(PACKAGE)
        while drawn:
            free = [name for name in drawn if not any(other in drawn for other in drawn[name])]
            self.assertNotEqual(free, [], drawn)
            for name in free:
                drawn.pop(name)

    def test_names_are_drawn_from_the_file_that_defines_them(self):
        for path in sorted(PACKAGE.glob("*.py")):
            for node in ast.parse(path.read_text(encoding="utf-8")).body:
                if isinstance(node, ast.ImportFrom):
                    source = PACKAGE / (node.module.split(".")[-1] + ".py")
                    defined = ast.parse(source.read_text(encoding="utf-8")).body
                    names = [each.name for each in defined if isinstance(each, (ast.FunctionDef, ast.ClassDef))]
                    names += [each.targets[0].id for each in defined if isinstance(each, ast.Assign)]
                    self.assertLessEqual({alias.name for alias in node.names}, set(names), path.name)


class CheckTest(unittest.TestCase):
    """The check itself finds what it is there for."""

    def rules(self, text):
        return {rule for rule, place in faults_of_text(text)}

    def test_plain_code_has_no_fault(self):
        plain = '"""Words."""\n\nfrom loomlook.errors import NoLoom\n\nMOST = 3\n\n\ndef two(one):\n'
        plain = plain + '    if one is None:\n        raise NoLoom(f"{one}")\n    return [k for k in range(MOST) if k]\n'
        self.assertEqual(self.rules(plain), set())

    def test_sizes(self):
        self.assertIn("L10", self.rules("x = " + "1" * 120 + "\n"))
        self.assertNotIn("L10", self.rules("x = " + "1" * 116 + "\n"))
        self.assertIn("L10", self.rules("def f():\n\treturn 1\n"))
        self.assertIn("L10", self.rules("def f():\n" + "    pass\n" * 40))
        self.assertNotIn("L10", self.rules("def f():\n" + "    pass\n" * 39))
        self.assertIn("L10", self.rules("\n" * 401))
        self.assertNotIn("L10", self.rules("\n" * 400))

    def test_signs(self):
        for sign in ["\u00e9", "\u2019", "\u00a0", "\r", "\x7f"]:
            self.assertIn("L14", self.rules("# a" + sign + "b\n"))

    def test_words(self):
        for word in NO_WORDS + ["mydataclasses", "overloaded", "contextmanagers"]:
            self.assertIn("L17", self.rules("# of " + word + " here\n"))
        for word in ["types", "enumerate", "prototype", "Flags"]:
            self.assertNotIn("L17", self.rules("# of " + word + " here\n"))
        for name in NO_NAMES:
            self.assertIn("L17", self.rules("def f(x):\n    return x." + name + "\n"))
            self.assertIn("L17", self.rules("def f(x):\n    return " + name + "(x)\n"))

    def test_other_rules(self):
        told = {
            "import os\n": "L6",
            "from os import path\n": "L2",
            "from .errors import NoLoom\n": "L2",
            "from loomlook.errors import *\n": "L2",
            "print(1)\n": "L3",
            "def f(*xs):\n    return xs\n": "L4",
            "def f(x):\n    assert x\n": "L6",
            "def f(x):\n    return x / 2\n": "L7",
            "def f(x):\n    return any(k for k in x)\n": "L7",
            "def f(x):\n    return f'{x[0]}'\n": "L7",
            "def f(x):\n    return f'{x!s}'\n": "L7",
            "def f(x):\n    return f'{x:3}'\n": "L7",
            "def f(x):\n    return filter(None, x)\n": "L8",
            "def f(x):\n    return chr(x)\n": "L8",
            "def _f(x):\n    return x\n": "L12",
            "def f(hash):\n    return hash\n": "L15",
            "x = 1\nx = 2\n": "L15",
            "def f(x, y):\n    return x is y\n": "L20",
            "def f(x):\n    return x.sort()\n": "L25",
        }
        for text, rule in told.items():
            with self.subTest(text):
                self.assertIn(rule, self.rules(text))
