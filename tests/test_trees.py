"""Sentences as trees: points 1 and 3."""

import unittest

from mindchange.trees import depth, names_in

A = ("name", "a")
B = ("name", "b")
C = ("name", "c")
YES = ("yes",)
NO = ("no",)
BETWEEN = ("and", "or", "then", "same")


def nots(count, tree):
    for _ in range(count):
        tree = ("not", tree)
    return tree


def leaning_left(kind, count, tree, leaf):
    for _ in range(count):
        tree = (kind, tree, leaf)
    return tree


def leaning_right(kind, count, tree, leaf):
    for _ in range(count):
        tree = (kind, leaf, tree)
    return tree


def bushy(levels, names):
    """A tree that is full down to a depth, its leaves the names in turn."""
    layer = [("name", names[k % len(names)]) for k in range(2 ** (levels - 1))]
    while len(layer) > 1:
        layer = [("and", layer[k], layer[k + 1]) for k in range(0, len(layer), 2)]
    return layer[0]


class Depth(unittest.TestCase):
    def test_the_first_three_kinds(self):
        for tree in (A, ("name", "abcdefgh"), ("name", "name"), ("name", "and"), YES, NO):
            with self.subTest(tree=tree):
                self.assertEqual(depth(tree), 1)

    def test_not(self):
        self.assertEqual(depth(("not", A)), 2)
        self.assertEqual(depth(("not", YES)), 2)
        self.assertEqual(depth(("not", ("not", NO))), 3)
        self.assertEqual(depth(("not", ("or", A, B))), 3)

    def test_each_kind_of_two_parts(self):
        for kind in BETWEEN:
            with self.subTest(kind):
                self.assertEqual(depth((kind, A, B)), 2)
                self.assertEqual(depth((kind, YES, NO)), 2)
                self.assertEqual(depth((kind, A, A)), 2)

    def test_the_deepest_part_counts_on_either_side(self):
        for kind in BETWEEN:
            with self.subTest(kind):
                self.assertEqual(depth((kind, nots(5, A), B)), 7)
                self.assertEqual(depth((kind, B, nots(5, A))), 7)
                self.assertEqual(depth((kind, nots(2, A), nots(5, YES))), 7)
                self.assertEqual(depth((kind, nots(5, A), nots(2, NO))), 7)
                self.assertEqual(depth((kind, (kind, A, (kind, B, C)), (kind, A, B))), 4)

    def test_as_deep_as_may_be_and_somewhat_deeper(self):
        for count in (39, 40, 59):
            for kind in BETWEEN:
                with self.subTest(kind, count=count):
                    self.assertEqual(depth(leaning_left(kind, count, A, B)), count + 1)
                    self.assertEqual(depth(leaning_right(kind, count, A, B)), count + 1)
            self.assertEqual(depth(nots(count, A)), count + 1)

    def test_many_parts(self):
        self.assertEqual(depth(bushy(10, ("a", "b"))), 10)

    def test_far_beyond_the_depth_of_calls(self):
        self.assertEqual(depth(nots(5000, A)), 5001)


class NamesIn(unittest.TestCase):
    def test_the_first_three_kinds(self):
        self.assertEqual(names_in(A), ["a"])
        self.assertEqual(names_in(("name", "abcdefgh")), ["abcdefgh"])
        self.assertEqual(names_in(YES), [])
        self.assertEqual(names_in(NO), [])

    def test_names_that_read_like_kinds(self):
        for word in ("name", "yes", "no", "not", "and", "or", "then", "same"):
            with self.subTest(word):
                self.assertEqual(names_in(("name", word)), [word])
                self.assertEqual(names_in(("and", ("not", ("name", word)), YES)), [word])

    def test_not(self):
        self.assertEqual(names_in(("not", B)), ["b"])
        self.assertEqual(names_in(("not", NO)), [])

    def test_each_kind_of_two_parts(self):
        for kind in BETWEEN:
            with self.subTest(kind):
                self.assertEqual(names_in((kind, A, B)), ["a", "b"])
                self.assertEqual(names_in((kind, B, A)), ["a", "b"])
                self.assertEqual(names_in((kind, YES, C)), ["c"])
                self.assertEqual(names_in((kind, C, NO)), ["c"])
                self.assertEqual(names_in((kind, YES, NO)), [])

    def test_each_name_once(self):
        self.assertEqual(names_in(("and", A, A)), ["a"])
        self.assertEqual(names_in(("or", ("then", B, A), ("same", nots(3, A), B))), ["a", "b"])

    def test_names_of_unlike_deep_parts(self):
        for kind in BETWEEN:
            with self.subTest(kind):
                self.assertEqual(names_in((kind, nots(6, C), A)), ["a", "c"])
                self.assertEqual(names_in((kind, A, nots(6, C))), ["a", "c"])
                self.assertEqual(names_in((kind, leaning_left("or", 6, C, B), A)), ["a", "b", "c"])

    def test_names_that_are_beginnings_of_one_another(self):
        words = ["b", "abc", "a", "abcdefgh", "ab", "aa", "ba"]
        tree = YES
        for word in words:
            tree = ("or", tree, ("name", word))
        self.assertEqual(names_in(tree), ["a", "aa", "ab", "abc", "abcdefgh", "b", "ba"])

    def test_more_than_eight_names(self):
        names = list("qwertyuiopasdfghjklzxcvbnm")
        self.assertEqual(names_in(bushy(6, names)), sorted(names))

    def test_as_deep_as_may_be_and_far_beyond(self):
        self.assertEqual(names_in(nots(39, A)), ["a"])
        self.assertEqual(names_in(leaning_right("then", 39, B, A)), ["a", "b"])
        self.assertEqual(names_in(nots(5000, A)), ["a"])

    def test_it_is_a_list_and_the_askers_own(self):
        tree = ("and", B, A)
        told = names_in(tree)
        self.assertIs(type(told), list)
        told.append("zzz")
        told[0] = "other"
        self.assertEqual(names_in(tree), ["a", "b"])
        self.assertEqual(tree, ("and", ("name", "b"), ("name", "a")))


if __name__ == "__main__":
    unittest.main()
