"""The package keeps to a small part of Python. Each fault is told with the
rule's number, the file and the line. Not all that the rules ask can be seen
here: what a value is, or whether a change reaches a list of a file's top."""

import ast
import builtins
import pathlib
import re
import unittest

PACKAGE = pathlib.Path(__file__).resolve().parent.parent / "mindchange"
ERRORS = set("""Exception ValueError TypeError KeyError IndexError LookupError ZeroDivisionError ArithmeticError
    OverflowError RuntimeError NotImplementedError AttributeError StopIteration""".split())
OWN_CALLS = set("""len range enumerate zip min max sum abs sorted reversed int str bool list tuple dict set frozenset
    isinstance ord repr any all divmod""".split())
METHODS = set("""append clear copy count endswith extend find get index insert isalnum isalpha isdigit islower isspace
    isupper items join keys ljust lower lstrip partition pop remove replace reverse rfind rjust rpartition rsplit
    rstrip setdefault split splitlines startswith strip update upper values zfill bit_length""".split())
UNDERSCORED = set("__init__ __eq__ __repr__ __str__ __len__".split())
UNUSED = set("""register mro elements open input version_info with_traceback add_note format format_map""".split())
UNUSED_NAMES = set("""attrgetter breakpoint builtins compile copyright credits delattr dir eval exec exit gc getattr
    globals hasattr help id importlib license locals methodcaller os quit setattr super sys vars""".split())
KEYWORDS = {"sorted": {"key", "reverse"}, "min": {"key", "default"}, "max": {"key", "default"}, "sum": {"start"},
            "enumerate": {"start"}, "zip": {"strict"}}
WALKED = {"zip", "enumerate", "reversed", "range"}
WALKING = {"list", "tuple", "dict", "sorted", "sum", "any", "all", "enumerate", "zip", "min", "max"}
READING = {"len", "list", "tuple", "dict", "sorted", "sum", "any", "all", "min", "max", "enumerate", "zip", "reversed"}
UNWRITTEN = re.compile(r"""\b(type|typing|typing_extensions|enum|Enum|IntEnum|StrEnum|Flag|IntFlag|Generic|Protocol
    |ABC|ABCMeta|namedtuple|NamedTuple|TypedDict|TYPE_CHECKING|abstractmethod)\b
    |dataclass|overload|contextmanager""", re.VERBOSE)
NODES = (
    ast.Module, ast.FunctionDef, ast.ClassDef, ast.arguments, ast.arg, ast.Lambda, ast.ImportFrom, ast.alias,
    ast.Assign, ast.AugAssign, ast.If, ast.While, ast.For, ast.Return, ast.Break, ast.Continue, ast.Pass, ast.Raise,
    ast.Try, ast.ExceptHandler, ast.Expr, ast.Name, ast.Constant, ast.List, ast.Tuple, ast.Dict, ast.Set,
    ast.BinOp, ast.UnaryOp, ast.BoolOp, ast.Compare, ast.IfExp, ast.Call, ast.keyword, ast.Attribute, ast.Subscript,
    ast.Slice, ast.ListComp, ast.comprehension, ast.JoinedStr, ast.FormattedValue, ast.expr_context, ast.boolop,
    ast.operator, ast.unaryop, ast.cmpop,
)


def files():
    return sorted(path for path in PACKAGE.rglob("*") if path.is_file() and "__pycache__" not in path.parts)


def plain_value(node, above):
    if isinstance(node, ast.Dict):
        return all(plain_value(part, above) for part in node.keys + node.values)
    if isinstance(node, (ast.List, ast.Tuple)):
        return all(plain_value(part, above) for part in node.elts)
    if isinstance(node, ast.UnaryOp):
        return plain_value(node.operand, above)
    return isinstance(node, ast.Constant) or isinstance(node, ast.Name) and node.id in above


def node_fault(node):
    """The rule that a single node breaks, seen by itself, or None."""
    if not isinstance(node, NODES):
        return "L6/L7"
    if isinstance(node, ast.Constant) and isinstance(node.value, (float, complex, bytes)):
        return "L7"
    if isinstance(node, ast.Constant) and isinstance(node.value, str) and "%" in node.value:
        return "L27"
    if isinstance(node, ast.BinOp) and isinstance(node.op, (ast.Div, ast.MatMult)):
        return "L7"
    if isinstance(node, ast.BinOp) and isinstance(node.op, ast.Pow):
        exponent = node.right.value if isinstance(node.right, ast.Constant) else -1
        return None if 0 <= exponent <= 64 else "L27"
    if isinstance(node, ast.ListComp) and (len(node.generators) > 1 or len(node.generators[0].ifs) > 1):
        return "L7"
    if isinstance(node, ast.Assign) and (len(node.targets) > 1 or isinstance(node.targets[0], ast.Starred)):
        return "L6"
    if isinstance(node, (ast.For, ast.While)) and node.orelse or isinstance(node, ast.Try) and node.finalbody:
        return "L6"
    return statement_fault(node)


def statement_fault(node):
    if isinstance(node, ast.FunctionDef):
        odd = node.args.vararg or node.args.kwarg or node.args.kwonlyargs or node.args.posonlyargs
        if odd or node.decorator_list:
            return "L4"
        return "L10" if node.end_lineno - node.lineno + 1 > 40 else None
    if isinstance(node, ast.ClassDef):
        bad = [part for part in node.body if not isinstance(part, (ast.FunctionDef, ast.Pass))]
        return "L5" if bad or node.decorator_list or node.keywords or len(node.bases) > 1 else None
    if isinstance(node, ast.ExceptHandler) and (node.type is None or "Exception" in ast.unparse(node.type).split()):
        return "L19"
    if isinstance(node, ast.Compare) and any(isinstance(op, (ast.Is, ast.IsNot)) for op in node.ops):
        sides = [node.left] + node.comparators
        return None if any(isinstance(side, ast.Constant) and side.value in (None, True, False) for side in sides) \
            else "L20"
    return None


def name_fault(name, bound):
    if name in UNUSED or bound and name in UNUSED_NAMES:
        return "L17"
    if name.startswith("_") and name not in UNDERSCORED or not name.isascii():
        return "L12"
    return "L15" if bound and name in vars(builtins) else None


def top_faults(tree):
    bound = []
    for place, node in enumerate(tree.body):
        if isinstance(node, ast.ImportFrom):
            own = node.level == 0 and node.module.startswith("mindchange.")
            if not own or any(part.name == "*" for part in node.names):
                yield "L2", node.lineno
            bound.extend(part.asname or part.name for part in node.names)
        elif isinstance(node, (ast.FunctionDef, ast.ClassDef)):
            bound.append(node.name)
        elif isinstance(node, ast.Assign) and plain_value(node.value, bound):
            bound.append(ast.unparse(node.targets[0]))
        elif place > 0 or not isinstance(node, ast.Expr) or not isinstance(node.value, ast.Constant):
            yield "L3", node.lineno
    if len(set(bound)) < len(bound):
        yield "L15", 1


def name_faults(tree, methods):
    errors = {node.name for node in ast.walk(tree) if isinstance(node, ast.ClassDef)}
    for node in ast.walk(tree):
        line = getattr(node, "lineno", 1)
        if isinstance(node, ast.arg):
            yield name_fault(node.arg, True), line
        elif isinstance(node, ast.Name):
            yield name_fault(node.id, isinstance(node.ctx, ast.Store)), line
            if node.id in vars(builtins) and node.id not in OWN_CALLS | ERRORS | errors:
                yield "L8", line
        elif isinstance(node, ast.Attribute):
            yield name_fault(node.attr, False), line
        elif isinstance(node, (ast.FunctionDef, ast.ClassDef)):
            yield name_fault(node.name, False), line
        elif isinstance(node, ast.Call) and isinstance(node.func, ast.Attribute):
            if node.func.attr not in METHODS | methods | UNDERSCORED:
                yield "L25", line


def called(node):
    """The name by which something is called, the empty text where it has none."""
    return node.func.id if isinstance(node, ast.Call) and isinstance(node.func, ast.Name) else ""


def is_walked_at_once(node):
    """Whether a call tells something that is only to be walked on the spot."""
    if not isinstance(node, ast.Call):
        return False
    views = isinstance(node.func, ast.Attribute) and node.func.attr in ("items", "keys", "values")
    return called(node) in WALKED or views


def walking_places(tree):
    """The nodes that stand where they are walked on the spot."""
    for node in ast.walk(tree):
        if isinstance(node, (ast.For, ast.comprehension)):
            yield node.iter
        elif called(node) in WALKING:
            yield from node.args if called(node) == "zip" else node.args[:1]
        elif isinstance(node, ast.Call) and isinstance(node.func, ast.Attribute) and node.func.attr == "join":
            yield from node.args


def call_faults(tree):
    places = list(walking_places(tree))
    for node in ast.walk(tree):
        if is_walked_at_once(node) and not any(node is place for place in places):
            yield "L23", node.lineno
        if called(node) in OWN_CALLS | ERRORS:
            if {part.arg for part in node.keywords} - KEYWORDS.get(called(node), set()):
                yield "L22", node.lineno
        if called(node) in ("frozenset", "set") or isinstance(node, ast.Set):
            yield "L24", node.lineno


def kept_at_top(tree):
    """The lists and dicts of a file's top."""
    return {ast.unparse(node.targets[0]) for node in tree.body
            if isinstance(node, ast.Assign) and isinstance(node.value, (ast.List, ast.Dict))}


def read_only(parents, node):
    """Whether a list or dict of a file's top is only read where it stands."""
    parent = parents[node]
    if isinstance(parent, ast.Subscript):
        return node is parent.value and isinstance(parent.ctx, ast.Load)
    if isinstance(parent, ast.Attribute):
        return parent.attr in ("get", "items", "keys", "values", "count", "index", "copy")
    if isinstance(parent, ast.Call):
        return called(parent) in READING
    return isinstance(parent, (ast.Compare, ast.For, ast.comprehension))


def binding_faults(tree):
    """Locals that take a name of the file's top, and changes to what the top keeps."""
    tops = {node.name for node in tree.body if isinstance(node, (ast.ClassDef, ast.FunctionDef))}
    tops |= {part.asname or part.name for node in drawn_from(tree) for part in node.names}
    kept = kept_at_top(tree)
    parents = {part: node for node in ast.walk(tree) for part in ast.iter_child_nodes(node)}
    for function in ast.walk(tree):
        if not isinstance(function, (ast.FunctionDef, ast.Lambda)):
            continue
        for node in ast.walk(function):
            stored = isinstance(node, ast.Name) and isinstance(node.ctx, ast.Store)
            if stored and node.id in tops | kept or isinstance(node, ast.arg) and node.arg in tops | kept:
                yield "L15", node.lineno
            elif isinstance(node, ast.Name) and node.id in kept and not read_only(parents, node):
                yield "L15", node.lineno


def text_faults(text):
    for number, line in enumerate(text.split("\n"), start=1):
        if len(line) > 120 or number > 401:
            yield "L10", number
        if any(not " " <= sign <= "~" for sign in line):
            yield "L14", number
        if UNWRITTEN.search(line):
            yield "L17", number


def faults(text, methods=frozenset()):
    """The faults of one file's text, as pairs of a rule and a line."""
    tree = ast.parse(text)
    found = list(text_faults(text)) + list(top_faults(tree)) + list(name_faults(tree, methods))
    found += list(call_faults(tree)) + list(binding_faults(tree))
    found += [(node_fault(node), getattr(node, "lineno", 1)) for node in ast.walk(tree)]
    for node in ast.walk(tree):
        if isinstance(node, ast.Expr) and not isinstance(node.value, ast.Call) and node is not tree.body[0]:
            found.append(("L6", node.lineno))
    return sorted({fault for fault in found if fault[0] is not None})


def own_methods(trees):
    return {part.name for tree in trees for node in tree.body if isinstance(node, ast.ClassDef)
            for part in node.body if isinstance(part, ast.FunctionDef)}


def own_values(trees):
    return {node.attr for tree in trees for node in ast.walk(tree)
            if isinstance(node, ast.Attribute) and isinstance(node.ctx, ast.Store)}


def drawn_from(tree):
    return [node for node in tree.body if isinstance(node, ast.ImportFrom)]


class TheForm(unittest.TestCase):
    @classmethod
    def setUpClass(cls):
        cls.texts = {path: path.read_text(encoding="utf-8") for path in files() if path.suffix == ".py"}
        cls.trees = {path: ast.parse(text) for path, text in cls.texts.items()}

    def test_nothing_but_plain_files(self):
        self.assertIn(PACKAGE / "__init__.py", self.trees)
        for path in files():
            self.assertRegex(path.name, r"\A(__init__|__main__|[a-z][a-z0-9_]*)\.py\Z")
            self.assertNotRegex(path.stem, r"\A(test|tests|testing|test_.*|site|conftest|.*customize)\Z")
            self.assertFalse(path.stem in vars(builtins), path.stem)

    def test_each_file(self):
        methods = own_methods(self.trees.values())
        for path, text in self.texts.items():
            with self.subTest(path.name):
                self.assertEqual(faults(text, methods), [])

    def test_no_name_is_both_a_method_and_a_value(self):
        self.assertEqual(own_methods(self.trees.values()) & own_values(self.trees.values()), set())

    def test_imports_come_from_the_defining_file(self):
        for path, tree in self.trees.items():
            for node in drawn_from(tree):
                source = PACKAGE / (node.module.split(".", 1)[1].replace(".", "/") + ".py")
                defined = {part.name for part in self.trees[source].body
                           if isinstance(part, (ast.FunctionDef, ast.ClassDef))}
                defined |= {ast.unparse(part.targets[0]) for part in self.trees[source].body
                            if isinstance(part, ast.Assign)}
                with self.subTest(path.name, source=source.name):
                    self.assertLessEqual({part.name for part in node.names}, defined)

    def test_no_two_files_draw_from_one_another(self):
        draws = {path.stem: {node.module.split(".")[-1] for node in drawn_from(tree)}
                 for path, tree in self.trees.items()}
        while draws:
            free = [stem for stem in draws if not draws[stem] & set(draws)]
            self.assertTrue(free, draws)
            for stem in free:
                draws.pop(stem)


class TheCheckItself(unittest.TestCase):
    def test_it_tells_faults(self):
        wrong = {
            "L2": "from os import path\n", "L3": "print(1)\n", "L4": "def f(*xs):\n    return xs\n",
            "L5": "class A:\n    x = 1\n", "L6": "def f():\n    assert 1\n", "L7": "def f(x):\n    return x / 2\n",
            "L8": "def f(x):\n    return hash(x)\n", "L10": "X = 1" + " " * 120 + "\n",
            "L12": "def _f():\n    pass\n", "L14": "X = 1\t\n", "L15": "def f(hash):\n    return hash\n",
            "L17": "# a type\n", "L19": "def f():\n    try:\n        pass\n    except Exception:\n        pass\n",
            "L20": "def f(x, y):\n    return x is y\n", "L25": "def f(x):\n    return x.title()\n",
            "L27": "def f(n):\n    return 2 ** n\n",
        }
        for rule, text in wrong.items():
            self.is_told(rule, text)

    def is_told(self, rule, text):
        with self.subTest(rule, text=text):
            told = "/".join(fault[0] for fault in faults(text))
            self.assertIn(rule, told.split("/"))

    def test_it_tells_calls_and_names(self):
        for rule, text in (
                ("L15", "from mindchange.errors import Always\n\n\ndef f(Always):\n    return 1\n"),
                ("L15", "def g():\n    pass\n\n\ndef f():\n    g = 1\n    return g\n"),
                ("L15", "XS = [1]\n\n\ndef f():\n    return XS\n"),
                ("L15", "XS = [1]\n\n\ndef f():\n    XS.append(2)\n"),
                ("L15", "XS = {1: 2}\n\n\ndef f():\n    XS[1] = 3\n"),
                ("L17", "def f(os):\n    return os\n"),
                ("L22", "def f(xs):\n    return max(xs, start=1)\n"),
                ("L22", "def f(x):\n    return int(x, base=2)\n"),
                ("L23", "def f(xs):\n    return range(xs)\n"),
                ("L23", "def f(d):\n    xs = d.items()\n    return xs\n"),
                ("L24", "def f(xs):\n    return set(xs)\n")):
            self.is_told(rule, text)

    def test_it_passes_plain_text(self):
        self.assertEqual(faults('"""Words."""\n\nX = (1, "a")\n\n\ndef f(x):\n    return [k + 1 for k in x]\n'), [])
        self.assertEqual(faults("XS = {1: 2}\n\n\ndef f(x):\n    return XS[x] if x in XS else dict(XS)\n"), [])
        self.assertEqual(faults("def f(d):\n    return [k for k, x in d.items()] + list(range(3))\n"), [])


if __name__ == "__main__":
    unittest.main()
