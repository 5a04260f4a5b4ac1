"""What is seen with some names known, and what follows: points 1, 7 and 8."""

import copy
import itertools
import unittest

from mindchange.errors import MindError, NoName
from mindchange.papers import follows, seen
from tests.samples import (
    A, B, BETWEEN, C, EIGHT, NO, YES, big_tree, breakers, keepers, nots, random_trees, row, row_from_right,
    seen_by_hand, small_trees, standing, value_by_hand,
)

# what each kind of two parts is seen as, the left part down, the right part
# across, each as 0, 1 and open
OPEN = None
SEEN = {
    "and": ((0, 0, 0), (0, 1, OPEN), (0, OPEN, OPEN)),
    "or": ((0, 1, OPEN), (1, 1, 1), (OPEN, 1, OPEN)),
    "then": ((1, 1, 1), (0, 1, OPEN), (OPEN, 1, OPEN)),
    "same": ((1, 0, OPEN), (0, 1, OPEN), (OPEN, OPEN, OPEN)),
}


def knowing(**values):
    return {name: told for name, told in values.items() if told is not None}


class Seen(unittest.TestCase):
    def sees(self, tree, known, told):
        before = dict(known)
        with self.subTest(tree=tree, known=known):
            answer = seen(tree, known)
            self.assertEqual(answer, told)
            self.assertIn(type(answer), (int, type(None)))
            self.assertEqual(list(known.items()), list(before.items()))

    def test_the_first_three_kinds(self):
        for known in ({}, {"a": 0}, {"b": 1}):
            self.sees(YES, known, 1)
            self.sees(NO, known, 0)
        self.sees(A, {}, None)
        self.sees(A, {"a": 0}, 0)
        self.sees(A, {"a": 1}, 1)
        self.sees(A, {"b": 1, "aa": 0}, None)

    def test_not(self):
        self.sees(("not", A), {}, None)
        self.sees(("not", A), {"a": 0}, 1)
        self.sees(("not", A), {"a": 1}, 0)
        self.sees(("not", YES), {}, 0)
        self.sees(("not", NO), {}, 1)

    def test_each_kind_with_parts_known_and_open(self):
        for kind in BETWEEN:
            for (down, left), (across, right) in itertools.product(enumerate((0, 1, None)), repeat=2):
                told = SEEN[kind][down][across]
                self.sees((kind, A, B), knowing(a=left, b=right), told)
                self.sees((kind, ("not", A), B), knowing(a=None if left is None else 1 - left, b=right), told)
                self.sees((kind, A, ("not", B)), knowing(a=left, b=None if right is None else 1 - right), told)
                leaves = [{0: NO, 1: YES, None: C}[one] for one in (left, right)]
                self.sees((kind, *leaves), {}, told)
                self.sees((kind, *leaves), {"a": 1, "b": 0}, told)

    def test_both_parts_the_same_open_name(self):
        for kind in BETWEEN:
            self.sees((kind, A, A), {}, None)
            self.sees((kind, A, A), {"b": 0}, None)
            self.sees((kind, A, ("not", A)), {}, None)
            self.sees((kind, ("not", A), A), {}, None)
            self.sees((kind, A, A), {"a": 0}, SEEN[kind][0][0])
            self.sees((kind, A, A), {"a": 1}, SEEN[kind][1][1])

    def test_names_known_that_the_sentence_lacks(self):
        self.sees(("and", A, B), {"c": 0, "d": 1}, None)
        self.sees(("and", A, B), {"c": 0, "b": 0, "d": 1}, 0)
        self.sees(YES, {name: 0 for name in EIGHT}, 1)

    def test_names_like_kinds(self):
        self.sees(("name", "yes"), {}, None)
        self.sees(("name", "not"), {"not": 1}, 1)

    def test_many_sentences(self):
        chances = [{name: told for name, told in zip("abc", row_) if told is not None}
                   for row_ in itertools.product((0, 1, None), repeat=3)]
        for tree in random_trees(7, ("a", "b", "c"), 5, 200) + small_trees((A, B, YES), 2):
            for known in chances:
                self.assertEqual(seen(tree, known), seen_by_hand(tree, known), (tree, known))

    def test_as_deep_as_may_be_and_somewhat_deeper(self):
        for count in (39, 40, 60, 101):
            self.sees(nots(count, A), {}, None)
            self.sees(nots(count, A), {"a": 0}, count % 2)
            self.sees(row("or", [B] + [A] * count), {"b": 1}, 1)
            self.sees(row_from_right("and", [A] * count + [B]), {"b": 0}, 0)
            self.sees(row_from_right("same", [A] * count + [B]), {"b": 0}, None)


class Follows(unittest.TestCase):
    def walk(self, names, premises, tree, paper, known):
        """Walks a paper as the document says; tells how many ends it has."""
        self.assertIs(type(paper), tuple)
        if paper[0] == "split":
            self.assertEqual(len(paper), 4)
            self.assertIn(paper[1], names)
            self.assertNotIn(paper[1], known)
            return sum(self.walk(names, premises, tree, paper[2 + told], {**known, paper[1]: told})
                       for told in (0, 1))
        if paper[0] == "broken":
            self.assertEqual(len(paper), 2)
            self.assertIs(type(paper[1]), int)
            self.assertIn(paper[1], range(len(premises)))
            self.assertEqual(seen_by_hand(premises[paper[1]], known), 0)
        else:
            self.assertEqual(paper, ("kept",))
            self.assertEqual(seen_by_hand(tree, known), 1)
        return 1

    def asks(self, names, premises, tree):
        """Asks, and holds the answer against the worlds; tells its first word."""
        before = copy.deepcopy(premises)
        answer = follows(names, premises, tree)
        self.assertEqual(premises, before)
        self.assertIs(type(answer), tuple)
        self.assertEqual(len(answer), 2)
        left = set(range(2 ** len(names)))
        for premise in premises:
            left &= set(keepers(names, premise))
        against = left & set(breakers(names, tree))
        if against:
            self.assertEqual(answer[0], "no")
            self.assertIs(type(answer[1]), int)
            self.assertIn(answer[1], against)
        else:
            self.assertEqual(answer[0], "yes")
            self.walk(names, premises, tree, answer[1], {})
        return answer[0]

    def tells(self, names, premises, tree, word):
        with self.subTest(premises=premises, tree=tree):
            self.assertEqual(self.asks(names, premises, tree), word)


class WhatFollows(Follows):
    def test_ordinary_ones(self):
        names = ("a", "b", "c")
        self.tells(names, [A, ("then", A, B)], B, "yes")
        self.tells(names, [("then", A, B), ("then", B, C)], ("then", A, C), "yes")
        self.tells(names, [("or", A, B), ("not", A)], B, "yes")
        self.tells(names, [("same", A, B), B], A, "yes")
        self.tells(names, [("and", A, B)], ("or", C, A), "yes")
        self.tells(names, [A, B], A, "yes")
        self.tells(names, [A, B], C, "no")
        self.tells(names, [B, ("then", A, B)], A, "no")
        self.tells(names, [("or", A, B)], A, "no")
        self.tells(names, [("or", A, B)], ("and", A, B), "no")
        self.tells(names, [A], NO, "no")

    def test_the_one_world_against(self):
        self.assertEqual(follows(("a", "b"), [A], B), ("no", 1))
        self.assertEqual(follows(("b", "a"), [A], B), ("no", 2))
        self.assertEqual(follows(("a",), [], A), ("no", 0))
        self.assertEqual(follows(EIGHT, [("name", name) for name in EIGHT], NO), ("no", 255))

    def test_no_premises(self):
        self.tells(("a",), [], YES, "yes")
        self.tells(("a",), [], NO, "no")
        self.tells(("a",), [], A, "no")
        self.tells(("a",), [], ("or", A, ("not", A)), "yes")
        self.tells(("a", "b"), [], ("then", ("and", A, B), B), "yes")
        self.tells(("a", "b"), [], ("same", ("then", A, B), ("or", ("not", A), B)), "yes")

    def test_premises_that_no_world_keeps(self):
        for tree in (NO, A, YES, ("and", A, ("not", A))):
            self.tells(("a", "b"), [NO], tree, "yes")
            self.tells(("a", "b"), [A, ("not", A)], tree, "yes")
            self.tells(("a", "b"), [B, ("and", A, ("not", A))], tree, "yes")
            self.tells(("a", "b"), [("or", A, B), ("not", A), ("not", B)], tree, "yes")

    def test_a_premise_twice(self):
        self.tells(("a", "b"), [A, A], A, "yes")
        self.tells(("a", "b"), [A, A], B, "no")
        self.tells(("a", "b"), [("or", A, B), ("or", A, B), ("not", B), ("not", B)], A, "yes")
        self.tells(("a", "b"), [NO, NO], NO, "yes")

    def test_premises_that_are_always_so(self):
        self.tells(("a", "b"), [YES, ("or", A, ("not", A))], B, "no")
        self.tells(("a", "b"), [YES, B, ("or", A, ("not", A))], B, "yes")

    def test_what_is_always_so_but_not_seen_so(self):
        names = EIGHT
        tree = row("and", [("or", ("name", name), ("not", ("name", name))) for name in names])
        self.tells(names, [], tree, "yes")
        self.tells(names, [("not", tree)], NO, "yes")

    def test_one_name(self):
        for premises in itertools.product((A, ("not", A), YES, NO, ("or", A, ("not", A))), repeat=2):
            for tree in (A, ("not", A), YES, NO, ("and", A, ("not", A))):
                self.asks(("a",), list(premises), tree)

    def test_all_small_sentences(self):
        trees = small_trees((A, B), 2)
        words = [self.asks(("b", "a"), [premise], tree) for premise in trees for tree in trees]
        self.assertGreater(words.count("yes"), 50)
        self.assertGreater(words.count("no"), 50)

    def test_many_sentences(self):
        words = []
        for count in range(1, 9):
            names = EIGHT[:count]
            for seed in range(25):
                trees = random_trees(100 * count + seed, names, 4, 1 + seed % 6)
                words.append(self.asks(names, trees[1:], trees[0]))
        self.assertGreater(words.count("yes"), 20)
        self.assertGreater(words.count("no"), 20)

    def test_names_in_other_orders(self):
        for names in itertools.permutations(("a", "b", "c")):
            self.tells(names, [A, ("then", A, B)], B, "yes")
            self.tells(names, [A, ("then", A, B)], C, "no")
            self.tells(names, [("or", A, C), ("then", C, B)], ("or", B, A), "yes")

    def test_names_that_no_sentence_has(self):
        self.tells(EIGHT, [("name", "w"), ("then", ("name", "w"), ("name", "q"))], ("name", "q"), "yes")
        self.tells(EIGHT, [("name", "w")], ("name", "q"), "no")
        self.tells(EIGHT, [], YES, "yes")


class ManyPremises(Follows):
    def test_thirty_premises_and_eight_names(self):
        chain = [("then", ("name", one), ("name", other)) for one, other in zip(EIGHT, EIGHT[1:])]
        premises = (chain * 5)[:29]
        self.tells(EIGHT, premises + [("name", "p")], ("name", "w"), "yes")
        self.tells(EIGHT, premises + [("name", "w")], ("name", "p"), "no")
        self.tells(EIGHT, premises, ("then", ("name", "p"), ("name", "w")), "yes")

    def test_the_last_premise_counts(self):
        self.tells(EIGHT, [YES] * 29 + [("name", "p")], ("name", "p"), "yes")
        self.tells(EIGHT, [YES] * 30, ("name", "p"), "no")
        self.tells(EIGHT, [("name", "p")] + [YES] * 29, ("name", "p"), "yes")

    def test_one_premise_for_each_of_thirty_worlds(self):
        names = EIGHT[:5]
        worlds = [row("or", [("not", ("name", name)) if told else ("name", name)
                             for name, told in standing(names, world).items()]) for world in range(32)]
        # each of them is broken by its one world
        self.assertEqual([breakers(names, tree) for tree in worlds], [[world] for world in range(32)])
        self.tells(names, worlds[:30], NO, "no")
        self.tells(names, worlds[:30], ("and", ("name", "q"), ("name", "r")), "yes")
        self.tells(names, worlds[2:], ("not", ("or", ("name", "q"), ("name", "r"))), "yes")
        self.tells(names, worlds + [], NO, "yes")

    def test_sentences_of_many_parts(self):
        big = [big_tree(seed, EIGHT) for seed in range(30)]
        self.asks(EIGHT, big, ("name", "p"))
        self.tells(EIGHT, big[:3] + [("not", tree) for tree in big[:3]], NO, "yes")
        self.tells(EIGHT, [("same", big[0], nots(2, big[0]))], ("same", big[1], big[1]), "yes")

    def test_deep_sentences(self):
        self.tells(("a", "b"), [nots(38, A), row_from_right("then", [A] * 39 + [B])], B, "yes")
        self.tells(("a", "b"), [nots(39, A), row_from_right("then", [A] * 39 + [B])], B, "no")

    def test_sums_of_all_names(self):
        # what hangs on every name is seen only when all of them are known
        whole = row("same", [("name", name) for name in EIGHT])
        other = row_from_right("same", [("name", name) for name in reversed(EIGHT)])
        self.tells(EIGHT, [whole], other, "yes")
        self.tells(EIGHT, [whole], ("not", other), "no")


class LackingNames(unittest.TestCase):
    def refused(self, names, premises, tree):
        with self.subTest(premises=premises, tree=tree):
            before = list(premises)
            with self.assertRaises(MindError) as caught:
                follows(names, premises, tree)
            self.assertIs(type(caught.exception), NoName)
            self.assertEqual(premises, before)

    def test_in_a_premise_or_in_the_sentence(self):
        self.refused(("a",), [B], A)
        self.refused(("a",), [A, A, B], A)
        self.refused(("a",), [B, A], A)
        self.refused(("a",), [], B)
        self.refused(("a",), [A], B)
        self.refused(("a",), [B], C)

    def test_also_where_nothing_hangs_on_it(self):
        self.refused(("a",), [("or", YES, B)], A)
        self.refused(("a",), [A], ("or", YES, B))
        self.refused(("a",), [NO], B)
        self.refused(("a",), [NO, B], A)
        self.refused(("a",), [B], YES)
        self.refused(("a",), [A] * 29 + [("and", NO, B)], A)


class WhatIsTold(unittest.TestCase):
    def test_the_same_when_asked_again(self):
        premises = [A, ("then", A, B)]
        first = follows(("a", "b"), premises, B)
        premises.append(C)
        premises[0] = B
        follows(("a", "b", "c"), premises, A)
        self.assertEqual(follows(("a", "b"), [A, ("then", A, B)], B), first)

    def test_the_sentences_value_in_the_world_told(self):
        for tree in random_trees(9, EIGHT, 5, 60):
            answer = follows(EIGHT, [], tree)
            if answer[0] == "no":
                self.assertEqual(value_by_hand(tree, standing(EIGHT, answer[1])), 0)


if __name__ == "__main__":
    unittest.main()
