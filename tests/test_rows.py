"""Rows that are run: points 1, 2, 21 and 23."""

import copy
import itertools
import random
import unittest

from mindchange.minds import flat
from mindchange.rows import run
from mindchange.showing import shown
from tests.rows_by_hand import refused, run_by_hand
from tests.samples import A, B, BIG, EIGHT, TWO, random_tree, small_trees

# a is held with the firmness 3, b denied with 2: the ranks are 3, 0, 5, 2
ROWS = ["names a b", "take 3 a", "lean -2 b"]
RANKS = (3, 0, 5, 2)
FIRST_WORDS = ("names", "take", "give", "lean", "keep", "pour", "back", "again", "ask", "lost", "worlds")


class Rows(unittest.TestCase):
    def agrees(self, text):
        """Runs a text, and holds what is told against what is told by hand."""
        wanted = run_by_hand(text)
        if isinstance(wanted[1], str):
            self.assertEqual(refused(text), wanted, text)
            return None
        told = run(text)
        self.assertEqual([type(part) for part in (told, *told)], [tuple, list, list])
        self.assertEqual(told[1], wanted[1], text)
        self.assertEqual(len(told[0]), len(wanted[0]))
        for answer, right in zip(told[0], wanted[0]):
            self.assertIs(type(answer), str)
            if isinstance(right, list):
                self.assertIn(answer, right)
            else:
                self.assertEqual(answer, right, text)
        return told

    def tells(self, rows, answers, ranks):
        """The rows stand behind those above."""
        text = "\n".join(ROWS + rows)
        with self.subTest(rows=rows):
            minds = [(TWO, each) for each in ((3, 0, 3, 0), RANKS, *ranks)]
            self.assertEqual(self.agrees(text), (answers, minds))

    def answers(self, rows, answers):
        self.tells(rows, answers, [])


class Deeds(Rows):
    def test_names_alone(self):
        for names in ("a", "a b", "b a", "abcdefgh", " ".join(EIGHT), "p q r s t u v"):
            self.assertEqual(run("names " + names), ([], []))
        self.assertEqual(run("names a b\nworlds\nask a"), (["00 10 01 11", "open"], []))
        self.assertEqual(run("names b a\ntake 2 a\nworlds"), (["01 11"], [(("b", "a"), (2, 2, 0, 0))]))

    def test_take_give_and_lean(self):
        self.tells([], [], [])
        self.tells(["take 1 a"], [], [(1, 0, 3, 2)])
        self.tells(["take 7 b"], [], [(10, 7, 3, 0)])
        self.tells(["give a"], [], [(0, 0, 2, 2)])
        self.tells(["give b"], [], [RANKS])
        self.tells(["lean 0 a", "lean 4 a & b", "lean -1 a | b"], [], [(0, 0, 2, 2), (4, 4, 6, 0), (0, 5, 7, 1)])
        self.tells(["take 5 a | ~a", "give 0", "lean -2 b"], [], [RANKS, RANKS, RANKS])

    def test_numbers(self):
        most = "9" * 30
        self.tells([f"lean {most} a"], [], [(int(most), 0, int(most) + 2, 2)])
        self.tells([f"lean -{most} a"], [], [(0, int(most), 2, int(most) + 2)])
        self.tells([f"take {most} b"], [], [(int(most) + 3, int(most), 3, 0)])
        for number in ("1", "9", "10", "100", "1234567890", "1" + "0" * 29, "9" * 29, most):
            for row in (f"take {number} b", f"lean {number} ~a", f"lean -{number} a", f"pour {number} x"):
                text = "\n".join(ROWS + ["keep x", row, "ask a", "ask b", "ask a = b"])
                self.assertIsNotNone(self.agrees(text), row)
        self.tells(["lean 0 b"], [], [(3, 0, 3, 0)])

    def test_back_and_again(self):
        first = (3, 0, 3, 0)
        self.tells(["back"], [], [first])
        self.tells(["back", "back"], [], [first, (0, 0, 0, 0)])
        self.tells(["back", "back", "again", "again"], [], [first, (0, 0, 0, 0), first, RANKS])
        self.tells(["back", "again", "back", "worlds"], ["10 11"], [first, RANKS, first])
        self.tells(["back", "take 9 b", "back", "again"], [], [first, (12, 9, 3, 0), first, (12, 9, 3, 0)])
        # a question and a kept mind leave what may be done again
        self.tells(["back", "ask a", "worlds", "lost a : b", "keep x", "again"],
                   ["held 3", "10 11", "not held"], [first, RANKS])

    def test_keep_and_pour(self):
        self.tells(["keep x"], [], [])
        self.tells(["keep x", "pour 1 x"], [], [(6, 0, 10, 4)])
        self.tells(["keep x", "pour 2 x 3 x"], [], [(18, 0, 30, 12)])
        self.tells(["keep x", "back", "keep y", "pour 2 x 1 y"], [], [(3, 0, 3, 0), (12, 0, 16, 4)])
        self.tells(["keep x", "pour 1 x", "pour 1 x"], [], [(6, 0, 10, 4), (9, 0, 15, 6)])
        self.tells(["keep x", "pour 1 x", "back", "pour 2 x"], [], [(6, 0, 10, 4), RANKS, (9, 0, 15, 6)])
        self.tells(["keep x", f"pour {'9' * 30} x"], [], [tuple(BIG * rank for rank in RANKS)])
        self.tells(["keep x", "pour" + " 1 x" * 10], [], [(33, 0, 55, 22)])

    def test_a_kept_mind_stays_as_it_was(self):
        self.tells(["keep x", "take 9 b", "pour 1 x"], [], [(12, 9, 3, 0), (13, 7, 6, 0)])
        self.tells(["keep x", "back", "back", "pour 2 x"], [], [(3, 0, 3, 0), (0, 0, 0, 0), (6, 0, 10, 4)])

    def test_a_word_kept_anew(self):
        self.tells(["keep x", "back", "keep x", "back", "pour 1 x"], [], [(3, 0, 3, 0), (0, 0, 0, 0), (3, 0, 3, 0)])
        self.tells(["keep x", "pour 1 x", "keep x", "pour 1 x"], [], [(6, 0, 10, 4), (12, 0, 20, 8)])
        # the back doesn't bring the word's first mind back
        self.tells(["keep x", "give a", "keep x", "back", "pour 1 x"], [], [(0, 0, 2, 2), RANKS, (3, 0, 7, 4)])

    def test_a_pour_of_the_greatest_weights_again_and_again(self):
        row = "pour" + (" " + "9" * 30 + " x") * 10
        rows = ["names a", "take 9 a"] + ["keep x", row] * 48 + ["ask a", "ask ~a"]
        self.assertEqual(len(rows), 100)
        firm = 9 * (1 + 10 * (BIG - 1)) ** 48
        told = self.agrees("\n".join(rows))
        self.assertEqual(told[0], [f"held {firm}", f"denied {firm}"])
        self.assertEqual(told[1][-1], (("a",), (firm, 0)))

    def test_first_words_as_names_and_kept_words(self):
        for word in FIRST_WORDS:
            rows = [f"names {word} b", f"take 3 {word}", "take 1 b", f"keep {word}", f"pour 2 {word}",
                    f"ask {word}", f"lost {word} : {word}", f"give {word}", f"lean -2 {word}", f"ask {word} & b"]
            names = (word, "b")
            minds = [(3, 0, 3, 0), (4, 1, 3, 0), (12, 3, 9, 0), (3, 3, 0, 0), (3, 5, 0, 2)]
            with self.subTest(word):
                self.assertEqual(self.agrees("\n".join(rows)), (["held 9", "goes 01", "denied 2"],
                                                                [(names, each) for each in minds]))
        self.assertEqual(run("names names take ask lost\nask names & ~names\ngive take"),
                         (["never"], [flat(("names", "take", "ask", "lost"))]))


class Answers(Rows):
    def test_ask(self):
        self.answers(["ask a", "ask ~a", "ask b", "ask ~b"], ["held 3", "denied 3", "denied 2", "held 2"])
        self.answers(["ask b > a", "ask a & b", "ask 1", "ask 0"], ["held 5", "denied 2", "always", "never"])
        self.answers(["ask a | ~a", "ask b = ~b", "ask ((a))"], ["always", "never", "held 3"])
        self.tells(["give a", "ask a", "ask ~a", "ask b"], ["open", "open", "denied 2"], [(0, 0, 2, 2)])
        self.tells([f"lean -{'9' * 30} a", "ask a", "ask ~a"], [f"denied {'9' * 30}", f"held {'9' * 30}"],
                   [(0, BIG - 1, 2, BIG + 1)])

    def test_lost(self):
        self.answers(["lost a : a", "lost a : a | b", "lost a : ~b", "lost a : b"],
                     ["goes 00", "goes 00", "stays", "not held"])
        self.answers(["lost ~b : ~b", "lost ~b : a", "lost ~b : a & ~b"], ["goes 11", "stays", "goes 11"])
        self.answers(["lost b > a : ~b", "lost b > a : a", "lost b>a:b>a"], ["goes 01", "goes 01", "goes 01"])
        # one that isn't held is given up, or is never so
        self.answers(["lost b : a", "lost b : ~b", "lost b : b", "lost 0 : a", "lost 0 : 0", "lost 0 : 1"],
                     ["stays", "stays", "not held", "stays", "not held", "stays"])
        self.answers(["lost a : 1", "lost a : b | ~b", "lost a : 0"], ["stays", "stays", "not held"])

    def test_lost_with_several_worlds(self):
        text = "names a b c\ntake 3 a\ntake 2 b & c\nlost a : a\nlost b : b & c\nlost b & c : b & c\nlost c : a"
        told = self.agrees(text)
        self.assertEqual(told[0][-1], "stays")
        self.assertRegex(told[0][0], r"\Agoes 0[01][01]\Z")

    def test_worlds(self):
        self.answers(["worlds"], ["10"])
        self.tells(["back", "worlds", "back", "worlds"], ["10 11", "00 10 01 11"], [(3, 0, 3, 0), (0, 0, 0, 0)])
        self.tells(["give a", "worlds"], ["00 10"], [(0, 0, 2, 2)])
        told = run("names a b c\nlean 1 c & ~b\nworlds")
        self.assertEqual(told[0], ["001 101"])
        told = run("names " + " ".join(EIGHT) + "\nworlds")
        self.assertEqual(told[0][0].split(" "), ["".join(bits)[::-1] for bits in itertools.product("01", repeat=8)])

    def test_all_small_sentences(self):
        trees = [shown(tree) for tree in small_trees((A, B), 2)]
        for start in ([], ROWS[1:], ["take 2 a | b"], ["lean -3 a = b", "take 1 b"], ["take 4 a & b"]):
            self.agrees("\n".join(["names a b"] + start + ["ask " + tree for tree in trees]))
            for tree in trees:
                rows = [f"lost {tree} : {other}" for other in trees]
                self.agrees("\n".join(["names a b"] + start + rows))

    def test_a_told_list_that_its_asker_changes(self):
        text = "\n".join(ROWS + ["ask a", "worlds"])
        told = run(text)
        before = copy.deepcopy(told)
        other = run(text)
        other[0].append("more")
        other[1].clear()
        run("names a\ntake 1 a")
        self.assertEqual(told, before)
        self.assertEqual(run(text), before)


class Blanks(Rows):
    def test_blanks_at_the_ends_and_between_words(self):
        plain = ["names a b", "take 3 a", "lean -2 b", "keep x", "pour 2 x 3 x", "give a", "back", "again",
                 "ask a & ~b", "lost ~b : ~(a & b)", "worlds"]
        wanted = run("\n".join(plain))
        self.assertEqual(wanted[0], ["open", "goes 11", "00 10"])
        for blanks in (" ", "  ", " " * 9):
            for ahead, between, behind in itertools.product(("", blanks), (" ", blanks), ("", blanks)):
                rows = [ahead + row.replace(" ", between) + behind for row in plain]
                self.assertEqual(self.agrees("\n".join(rows)), wanted)

    def test_no_blank_round_signs(self):
        self.answers(["ask a&~b", "ask (a)", "ask ~ a", "lost a:a", "lost a :a", "lost a: a", "lost  (a)  :  (a)  "],
                     ["held 2", "held 3", "denied 3"] + ["goes 00"] * 4)

    def test_rows_that_are_passed_over(self):
        plain = ROWS + ["ask a", "back", "worlds"]
        wanted = run("\n".join(plain))
        for blank in ("", " ", " " * 30):
            for place in range(len(plain) + 1):
                for count in (1, 3):
                    rows = plain[:place] + [blank] * count + plain[place:]
                    self.assertEqual(self.agrees("\n".join(rows)), wanted)
            rows = [part for row in plain for part in (blank, row, blank, "")]
            self.assertEqual(self.agrees("\n".join(rows)), wanted)
        self.assertEqual(run("\n".join(plain) + "\n"), wanted)

    def test_long_sentences(self):
        # blanks within a sentence count as signs, those at its ends don't
        longest = "a" + " " * 198 + "&b"
        self.assertEqual(len(longest), 201)
        self.answers(["ask " + longest.replace("  ", " ", 1)], ["denied 2"])
        self.answers(["ask " + " " * 150 + "a" + " " * 150], ["held 3"])
        self.answers(["lost" + " " * 150 + "a" + " " * 50 + ":" + " " * 90 + "a" + " " * 50], ["goes 00"])
        self.answers(["lost a" + " " * 300 + ": a", "lost a :" + " " * 300 + "a"], ["goes 00", "goes 00"])
        self.answers(["ask " + "a|" * 30 + "b"], ["held 3"])
        self.answers(["ask " + "~" * 38 + "a", "ask " + "~" * 39 + "a"], ["held 3", "denied 3"])
        self.answers(["lost " + "~" * 38 + "(a):" + "(" * 60 + "a" + ")" * 60], ["goes 00"])
        self.tells(["take 2 " + " " * 200 + "b" + " " * 100], [], [(5, 2, 3, 0)])

    def test_a_hundred_rows(self):
        rows = ["names a b"] + ["take 1 a", "lean -2 b", "give a"] * 33
        told = self.agrees("\n".join(rows))
        self.assertEqual([len(rows), len(told[1])], [100, 99])
        told = self.agrees("\n".join(ROWS + ["ask a"] * 97))
        self.assertEqual(told[0], ["held 3"] * 97)


class Many(Rows):
    """Rows by chance, right ones and wrong ones, against what is told by hand."""

    def sentence(self, chance, names):
        if chance.random() < 0.02:
            return chance.choice(("", "a b", "A", "~" * 40 + names[0], "zz", "a &", ":", "(a", "a # b"))
        return shown(random_tree(chance, names, chance.randrange(1, 4)))

    def row(self, chance, names):
        tree, other = self.sentence(chance, names), self.sentence(chance, names)
        number = chance.choice((1, 2, 3, 7, 20, BIG - 1))
        pairs = " ".join(f"{chance.randrange(1, 5)} {chance.choice('xxxy')}" for _ in range(chance.randrange(1, 4)))
        kind = chance.choice(FIRST_WORDS[1:] + ("ask", "lost", "take", "keep", "lean"))
        row = {"take": f"take {number} {tree}", "give": f"give {tree}", "lean": f"lean {number - 5} {tree}",
               "keep": f"keep {chance.choice('xxxy')}", "pour": f"pour {pairs}", "ask": f"ask {tree}",
               "lost": f"lost {tree} : {other}"}.get(kind, kind)
        return row.replace(" ", " " * chance.choice((1, 1, 1, 3)))

    def test_many(self):
        ends = {}
        for seed in range(1500):
            chance = random.Random(seed)
            names = tuple(chance.sample(EIGHT[:3] + ("a", "rain"), chance.randrange(1, 5)))
            text = "\n".join(["names " + " ".join(names)] + [self.row(chance, names) for _ in range(20)])
            told = self.agrees(text)
            end = refused(text)[1] if told is None else "told"
            ends[end] = ends.get(end, 0) + 1
        self.assertEqual(
            sorted(ends), sorted(["again", "always", "back", "deep", "kept", "name", "never", "sentence", "told"]))

    def test_many_more_rows(self):
        # each refused row is left out, so that the others are done up to the end
        for seed in range(60):
            chance = random.Random(seed)
            names = EIGHT[:1 + seed % 4]
            rows = ["names " + " ".join(names), "keep x", "keep y"] + [self.row(chance, names) for _ in range(97)]
            while self.agrees("\n".join(rows)) is None:
                rows[refused("\n".join(rows))[0]] = ""
            self.assertGreater(len([row for row in rows if row]), 40)


if __name__ == "__main__":
    unittest.main()
