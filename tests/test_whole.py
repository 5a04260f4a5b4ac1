"""The whole program: points 1 and 2, and the whole interface."""

import copy
import importlib
import inspect
import pathlib
import re
import subprocess
import sys
import unittest

from mindchange.errors import Always, MindError, Never, NoMinds, NoName, Refused, Unlike
from mindchange.forms import sentences_of, tree_of
from mindchange.levels import level_paper
from mindchange.logs import Log
from mindchange.minds import firmness, flat, held, leaning, mind_of
from mindchange.papers import follows, seen
from mindchange.pouring import common, poured
from mindchange.reading import read
from mindchange.rows import run
from mindchange.shedding import shed
from mindchange.showing import shown
from mindchange.tables import full, table, value
from mindchange.trees import depth, names_in
from mindchange.turning import given_up, lost, taken_on, turned
from tests.samples import A, B, BIG, C, NO, TWO, YES, nots, refusal, row

ROOT = pathlib.Path(__file__).resolve().parent.parent
MIND = (TWO, (3, 0, 5, 1))
TOLD = [(A, 4), (("then", A, B), 7), (B, 1), (B, 1)]
OTHERS = [A, ("not", B), ("or", A, B)]
FUNCTIONS = {
    "reading": {"read": "text"}, "showing": {"shown": "tree"}, "trees": {"depth": "tree", "names_in": "tree"},
    "tables": {"value": "names world tree", "table": "names tree", "full": "names"},
    "papers": {"seen": "tree known", "follows": "names premises tree"},
    "minds": {"flat": "names", "firmness": "mind tree", "held": "mind tree", "leaning": "mind tree",
              "mind_of": "names told"},
    "levels": {"level_paper": "names told tree"}, "forms": {"tree_of": "names table", "sentences_of": "mind"},
    "turning": {"turned": "mind tree lean", "given_up": "mind tree", "taken_on": "mind tree firm",
                "lost": "mind tree others"},
    "shedding": {"shed": "names told tree"}, "pouring": {"poured": "pairs", "common": "minds"},
    "rows": {"run": "text"},
}
METHODS = {"take": "tree firm", "give": "tree", "turn": "tree lean", "pour": "pairs", "back": "", "again": "",
           "mind": "", "minds": "", "backs": "", "agains": ""}
# a call of each function, with lists and dicts wherever it takes some
CALLS = (
    (read, ("a & ~b > a",)), (shown, (("then", A, B),)), (depth, (("not", A),)), (names_in, (("and", B, A),)),
    (value, (TWO, 1, A)), (table, (TWO, A)), (full, (TWO,)), (seen, (("and", A, B), {"a": 1, "c": 0})),
    (follows, (TWO, [A, ("then", A, B)], B)), (follows, (TWO, [A, A], B)), (flat, (TWO,)), (firmness, (MIND, A)),
    (held, (MIND, A)), (leaning, (MIND, A)), (mind_of, (TWO, TOLD)), (level_paper, (TWO, TOLD, B)),
    (tree_of, (TWO, 6)), (sentences_of, (MIND,)), (turned, (MIND, A, -2)), (given_up, (MIND, A)),
    (taken_on, (MIND, B, 2)), (lost, (MIND, A, OTHERS)), (shed, (TWO, TOLD, B)),
    (poured, ([(MIND, 2), (flat(TWO), BIG)],)), (common, ([MIND, flat(TWO)],)),
    (run, ("names a b\ntake 3 a\nask a\nkeep x\npour 2 x\nback\nworlds",)),
)
REFUSED = (
    (leaning, (MIND, YES), Always), (leaning, (MIND, NO), Never), (mind_of, (TWO, [*TOLD, (C, 1)]), NoName),
    (level_paper, (TWO, [*TOLD, (C, 1)], B), NoName), (lost, (MIND, YES, OTHERS), Always),
    (lost, (MIND, YES, [*OTHERS, C]), NoName), (shed, (TWO, TOLD, YES), Always), (shed, (TWO, [(C, 1)], YES), NoName),
    (follows, (TWO, [A, C], YES), NoName), (poured, ([],), NoMinds), (common, ([],), NoMinds),
    (poured, ([(MIND, 1), (flat(("a",)), 1)],), Unlike), (common, ([MIND, flat(("b", "a"))],), Unlike),
    (run, ("names a\nback",), Refused),
)


def lists_in(told):
    """All lists in what is told, at any place of it."""
    found = [told] if isinstance(told, list) else []
    if isinstance(told, (list, tuple)):
        for part in told:
            found += lists_in(part)
    return found


class TheInterface(unittest.TestCase):
    def takes(self, function, names):
        given = list(inspect.signature(function).parameters.values())
        self.assertEqual([part.name for part in given], names.split())
        self.assertEqual({part.kind for part in given} - {inspect.Parameter.POSITIONAL_OR_KEYWORD}, set())

    def test_functions(self):
        for module, functions in FUNCTIONS.items():
            for name, names in functions.items():
                with self.subTest(module, name=name):
                    self.takes(getattr(importlib.import_module("mindchange." + module), name), names)

    def test_the_log(self):
        self.takes(Log, "names")
        for name, names in METHODS.items():
            with self.subTest(name):
                self.takes(getattr(Log(TWO), name), names)
        log = Log(names=TWO)
        deeds = (log.take(tree=A, firm=1), log.give(tree=A), log.turn(tree=A, lean=1), log.pour(pairs=[]), log.back(),
                 log.again())
        self.assertEqual(deeds, (None,) * 6)

    def test_all_that_the_document_names_is_called_here(self):
        tried = {function.__name__ for function, _ in CALLS}
        self.assertEqual(tried, {name for functions in FUNCTIONS.values() for name in functions})

    def test_the_modules(self):
        names = sorted(path.stem for path in (ROOT / "mindchange").glob("*.py"))
        wanted = [*FUNCTIONS, "errors", "logs", "rowforms", "__init__"]
        self.assertEqual(names, sorted(wanted))


class PointOne(unittest.TestCase):
    def test_nothing_that_is_handed_in_is_changed(self):
        for function, things in CALLS:
            with self.subTest(function.__name__):
                before = copy.deepcopy(things)
                function(*things)
                self.assertEqual(things, before)

    def test_also_where_it_is_refused(self):
        for function, things, error in REFUSED:
            with self.subTest(function.__name__, things=things):
                before = copy.deepcopy(things)
                self.assertIs(refusal(function, *things), error)
                self.assertEqual(things, before)

    def test_what_is_told_is_the_askers_own(self):
        told = [function(*copy.deepcopy(things)) for function, things in CALLS]
        before = copy.deepcopy(told)
        for function, things in CALLS:
            again = function(*copy.deepcopy(things))
            for each in lists_in(again):
                each.append("more")
                each.reverse()
        self.assertEqual(told, before)
        self.assertEqual([function(*things) for function, things in CALLS], before)

    def test_what_is_handed_in_may_be_changed_later(self):
        for function, things in CALLS:
            handed = copy.deepcopy(things)
            told = function(*handed)
            before = copy.deepcopy(told)
            for each in handed:
                if isinstance(each, (list, dict)):
                    each.clear()
            with self.subTest(function.__name__):
                self.assertEqual(told, before)

    def test_no_list_that_is_told_is_one_that_is_handed_in(self):
        for function, things in CALLS:
            told = lists_in(function(*things))
            for handed in lists_in(things):
                self.assertFalse(any(handed is each for each in told), function.__name__)

    def test_the_same_in_another_run(self):
        # whatever the order in which texts are hashed
        code = "from tests.test_whole import CALLS\nprint([f(*things) for f, things in CALLS])"
        said = {subprocess.run([sys.executable, "-c", code], cwd=ROOT, capture_output=True, text=True, check=True,
                               env={"PYTHONHASHSEED": seed, "PYTHONDONTWRITEBYTECODE": "1"}).stdout
                for seed in ("0", "1", "2")}
        self.assertEqual(said, {str([function(*things) for function, things in CALLS]) + "\n"})


class PointTwo(unittest.TestCase):
    def test_each_refusal_is_of_one_class(self):
        for function, things, error in REFUSED:
            with self.assertRaises(MindError) as caught:
                function(*things)
            self.assertIsInstance(caught.exception, ValueError)
            self.assertIs(type(caught.exception), error)

    def test_somewhat_beyond_the_bounds(self):
        ten = tuple("abcdefghij")
        deep = nots(60, A)
        self.assertEqual(len(flat(ten)[1]), 1024)
        self.assertEqual(table(TWO, deep), table(TWO, A))
        self.assertEqual(read(shown(deep)[21:]), nots(39, A))
        self.assertEqual(value(ten, 512, ("name", "j")), 1)
        self.assertEqual(table(ten, tree_of(ten, 3 ** 600)), 3 ** 600)
        self.assertEqual(follows(TWO, [A] * 50, A)[0], "yes")
        self.assertEqual(mind_of(TWO, [(A, 2)] * 400), (TWO, (2, 0, 2, 0)))
        self.assertEqual(level_paper(TWO, [(B, 1)] * 40 + [(A, 2)], A), (2, [40], level_paper(TWO, [], A)[2]))
        self.assertEqual([place for place, _ in lost(MIND, A, [A] * 50)], list(range(50)))
        self.assertEqual(shed(TWO, [(A, 1)] * 14 + [(B, 1)], A)[0], [14])
        self.assertEqual(poured([(MIND, 1)] * 30), (TWO, (90, 0, 150, 30)))
        self.assertEqual(common([MIND] * 30), [1])
        log = Log(ten)
        log.pour([(flat(ten), 1)] * 30)
        log.take(row("and", [("name", name) for name in ten] * 6), BIG)
        self.assertEqual(log.backs(), 2)
        self.assertEqual(run("names a\n" + "ask a\n" * 120)[0], ["open"] * 120)
        self.assertEqual(run("names a\nask " + " " * 500 + "a")[0], ["open"])


class TheReadme(unittest.TestCase):
    def test_its_answers_are_those_of_the_program(self):
        """Each row with an answer behind "# " that can be read as one."""
        text = (ROOT / "README.md").read_text(encoding="utf-8")
        known, compared = {}, 0
        for block in re.findall(r"```python\n(.*?)```", text, re.DOTALL):
            for line in block.replace("\n# ", "  # ").split("\n"):
                code, _, said = line.partition("#")
                if line.startswith((" ", "try", "except")) or not code.strip():
                    continue
                try:
                    told = eval(code, known)
                except SyntaxError:
                    exec(code, known)
                    continue
                answer = re.match(r"\s*(\[.*\]|\(.*\)|\".*\"|-?\d+|True|None)(?=$|[:;]|  #)", said)
                if answer:
                    compared += 1
                    self.assertEqual(told, eval(answer.group(1), known), line)
        self.assertGreater(compared, 20)


if __name__ == "__main__":
    unittest.main()
