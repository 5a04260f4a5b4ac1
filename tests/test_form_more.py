"""More of the rules that the package keeps to, beside those of test_form:
classes, errors, methods, loops, texts and numbers."""

import ast
import io
import re
import tokenize
import unittest

from tests.test_form import ERRORS, METHODS, OWN_CALLS, UNDERSCORED, called, files

CHANGING = set("append clear extend insert pop remove reverse setdefault update".split())
FREE_VALUES = set("count index title find get join lower upper split strip copy add".split())
PYTHONS_OWN = {name for kind in (str, int, list, tuple, dict, set, frozenset, bytes, bool) for name in dir(kind)}
KEY_CALLS = set("len int str abs sum min max tuple".split())


def parents_of(tree):
    return {part: node for node in ast.walk(tree) for part in ast.iter_child_nodes(node)}


def functions_in(tree):
    return [node for node in ast.walk(tree) if isinstance(node, ast.FunctionDef)]


def import_faults(tree):
    for node in ast.walk(tree):
        if isinstance(node, ast.ImportFrom) and node not in tree.body:
            yield "L2", node.lineno
    kinds = [isinstance(node, ast.ImportFrom) for node in tree.body if not isinstance(node, ast.Expr)]
    if kinds != sorted(kinds, reverse=True):
        yield "L2", 1


def class_faults(tree, classes):
    for node in ast.walk(tree):
        if isinstance(node, ast.ClassDef):
            names = [part.name for part in node.body if isinstance(part, ast.FunctionDef)]
            if len(set(names)) < len(names):
                yield "L18", node.lineno
            for base in node.bases:
                if ast.unparse(base) not in classes | ERRORS - {"StopIteration", "AttributeError"}:
                    yield "L5/L18", node.lineno
    parents = parents_of(tree)
    for node in ast.walk(tree):
        if isinstance(node, ast.Name) and node.id in classes | ERRORS:
            parent = parents[node]
            is_called = isinstance(parent, ast.Call) and (node is parent.func or called(parent) == "isinstance")
            if not is_called and not isinstance(parent, (ast.ClassDef, ast.ExceptHandler, ast.Attribute)):
                yield "L18", node.lineno


def error_faults(tree, classes):
    for node in ast.walk(tree):
        if isinstance(node, ast.ExceptHandler):
            if not isinstance(node.type, ast.Name) or node.type.id not in classes | {"KeyError", "ZeroDivisionError"}:
                yield "L19", node.lineno
        if isinstance(node, ast.Raise) and not isinstance(node.exc, ast.Call):
            yield "L19", node.lineno


def value_faults(tree):
    """Python's own functions and methods that are kept or handed on, and annotations."""
    parents = parents_of(tree)
    for node in ast.walk(tree):
        parent = parents.get(node)
        if isinstance(node, ast.Name) and node.id in OWN_CALLS:
            as_key = isinstance(parent, ast.keyword) and parent.arg == "key" and node.id in KEY_CALLS
            in_isinstance = called(parent) == "isinstance" or isinstance(parent, ast.Tuple)
            if not as_key and not in_isinstance and not (isinstance(parent, ast.Call) and parent.func is node):
                yield "L22", node.lineno
        if isinstance(node, ast.Attribute) and node.attr in METHODS and isinstance(node.ctx, ast.Load):
            if not (isinstance(parent, ast.Call) and parent.func is node):
                yield "L25", node.lineno
        if isinstance(node, ast.arg) and node.annotation or isinstance(node, ast.FunctionDef) and node.returns:
            yield "L21", node.lineno


def walked_names(node):
    """What a loop walks, itself or through enumerate and its like."""
    if called(node) in ("enumerate", "zip", "reversed"):
        return {name for part in node.args for name in walked_names(part)}
    views = isinstance(node, ast.Call) and isinstance(node.func, ast.Attribute)
    if views and node.func.attr in ("items", "keys", "values"):
        return {ast.unparse(node.func.value)}
    return {ast.unparse(node)}


def loop_faults(tree):
    for loop in ast.walk(tree):
        if not isinstance(loop, ast.For):
            continue
        walked = walked_names(loop.iter)
        for part in loop.body:
            for node in ast.walk(part):
                if isinstance(node, ast.Call) and isinstance(node.func, ast.Attribute):
                    if node.func.attr in CHANGING and ast.unparse(node.func.value) in walked:
                        yield "L23", node.lineno
                if isinstance(node, ast.Subscript) and isinstance(node.ctx, ast.Store):
                    if ast.unparse(node.value) in walked:
                        yield "L23", node.lineno
                if isinstance(node, ast.AugAssign) and ast.unparse(node.target) in walked:
                    yield "L23", node.lineno


def own_name_faults(tree):
    for node in tree.body:
        if isinstance(node, ast.ClassDef):
            for part in functions_in(node):
                if part.name in PYTHONS_OWN - METHODS - UNDERSCORED - {"add", "discard"}:
                    yield "L26", part.lineno
    for node in ast.walk(tree):
        if isinstance(node, ast.Attribute) and isinstance(node.ctx, ast.Store):
            if node.attr in PYTHONS_OWN - FREE_VALUES | {"args"}:
                yield "L26", node.lineno
    for part in functions_in(tree):
        if part.name == "__init__" and any(isinstance(node, ast.Return) for node in ast.walk(part)):
            yield "L28", part.lineno


def text_faults(text, tree):
    for node in ast.walk(tree):
        if isinstance(node, ast.FormattedValue):
            if not isinstance(node.value, ast.Name) or node.format_spec or node.conversion not in (-1, ord("r")):
                yield "L7", node.lineno
    for token in tokenize.generate_tokens(io.StringIO(text).readline):
        if token.type == tokenize.STRING and re.search(r"\\[^nt\\'\"]", token.string):
            yield "L27", token.start[0]
        if token.type == tokenize.NUMBER and len(token.string) > 900:
            yield "L27", token.start[0]


def top_faults(tree):
    """Lists and dicts within those of a file's top, and classes that don't stand there."""
    for node in tree.body:
        if isinstance(node, ast.Assign):
            inner = [part for part in ast.walk(node.value) if isinstance(part, (ast.List, ast.Dict))]
            if len(inner) > (1 if isinstance(node.value, (ast.List, ast.Dict)) else 0):
                yield "L15", node.lineno
    for node in ast.walk(tree):
        if isinstance(node, ast.ClassDef) and node not in tree.body:
            yield "L15", node.lineno


def faults(text, classes=frozenset()):
    tree = ast.parse(text)
    found = [*import_faults(tree), *class_faults(tree, classes), *error_faults(tree, classes), *value_faults(tree)]
    found += [*loop_faults(tree), *own_name_faults(tree), *text_faults(text, tree), *top_faults(tree)]
    return sorted(set(found))


class TheFormOnceMore(unittest.TestCase):
    def test_each_file(self):
        texts = {path: path.read_text(encoding="utf-8") for path in files()}
        classes = {node.name for text in texts.values() for node in ast.parse(text).body
                   if isinstance(node, ast.ClassDef)}
        for path, text in texts.items():
            with self.subTest(path.name):
                self.assertEqual(faults(text, classes), [])

    def test_the_check_tells_faults(self):
        for rule, text in (
                ("L2", "def f():\n    from mindchange.errors import Always\n    return Always\n"),
                ("L2", "X = 1\nfrom mindchange.errors import Always\n"),
                ("L18", "class A:\n    pass\n\n\nXS = (A,)\n"), ("L18", "class A:\n    pass\n\n\ndef f():\n    return A\n"),
                ("L18", "class A:\n    def f(self):\n        pass\n\n    def f(self):\n        pass\n"),
                ("L18", "class A(StopIteration):\n    pass\n"),
                ("L19", "def f(x):\n    try:\n        x()\n    except ValueError:\n        pass\n"),
                ("L19", "def f(e):\n    raise e\n"), ("L21", "def f(x: int):\n    return x\n"),
                ("L22", "def f():\n    return len\n"), ("L22", "def f(g):\n    return g(sorted)\n"),
                ("L25", "def f(x):\n    return x.append\n"), ("L23", "def f(xs):\n    for x in xs:\n        xs.pop()\n"),
                ("L23", "def f(xs):\n    for k, x in enumerate(xs):\n        xs[k] = 1\n"),
                ("L23", "def f(d):\n    for k, x in d.items():\n        d[k] = 1\n"),
                ("L26", "class A:\n    def title(self):\n        pass\n"),
                ("L26", "class A:\n    def __init__(self):\n        self.items = 1\n"),
                ("L28", "class A:\n    def __init__(self):\n        return None\n"),
                ("L7", "def f(x):\n    return f\"{x + 1}\"\n"), ("L7", "def f(x):\n    return f\"{x:3}\"\n"),
                ("L27", "X = \"\\x41\"\n"), ("L27", "X = 1" + "0" * 900 + "\n"), ("L15", "XS = [[1]]\n"),
                ("L15", "XS = (1, [2])\n"), ("L15", "def f():\n    class A:\n        pass\n")):
            with self.subTest(rule, text=text[:80]):
                told = "/".join(fault[0] for fault in faults(text, {"A"}))
                self.assertIn(rule, told.split("/"))

    def test_the_check_passes_plain_text(self):
        self.assertEqual(faults("class A(ValueError):\n    def __init__(self, x):\n        self.x = x\n\n\n"
                                "def f(x):\n    if isinstance(x, int):\n        raise A(f\"{x!r}\")\n"
                                "    return sorted(x, key=len)\n", {"A"}), [])


if __name__ == "__main__":
    unittest.main()
