"""Names, worlds, values and tables: point 6."""

import unittest

from mindchange.errors import NoName
from mindchange.tables import full, table, value
from tests.samples import (
    A, B, BETWEEN, C, EIGHT, NO, VALUES, YES, big_tree, keepers, nots, random_trees, refusal, row, small_trees,
    standing, tuples_of_names, value_by_hand,
)

LACKING = (
    B, ("not", B), ("or", YES, B), ("or", B, YES), ("and", NO, B), ("and", B, NO), ("then", NO, B), ("then", B, YES),
    ("same", B, B), ("or", B, ("not", B)), ("then", B, B), ("and", A, B), ("same", A, ("or", A, ("and", NO, B))),
    ("name", "aa"), ("name", "name"), nots(39, B), row("or", [YES] * 39 + [B]), row("or", [B] + [YES] * 39),
)


class Values(unittest.TestCase):
    def test_each_kind_at_each_value_of_its_parts(self):
        for kind in BETWEEN:
            for left in (0, 1):
                for right in (0, 1):
                    with self.subTest(kind, left=left, right=right):
                        told = VALUES[kind][2 * left + right]
                        self.assertEqual(value(("a", "b"), left + 2 * right, (kind, A, B)), told)
                        leaves = [YES if one else NO for one in (left, right)]
                        self.assertEqual(value(("a",), 0, (kind, *leaves)), told)

    def test_the_other_kinds(self):
        for world in (0, 1):
            self.assertEqual(value(("a",), world, YES), 1)
            self.assertEqual(value(("a",), world, NO), 0)
            self.assertEqual(value(("a",), world, A), world)
            self.assertEqual(value(("a",), world, ("not", A)), 1 - world)
            self.assertEqual(value(("a",), world, ("not", YES)), 0)
            self.assertEqual(value(("a",), world, ("not", NO)), 1)

    def test_each_place_of_a_name(self):
        for place, name in enumerate(EIGHT):
            for world in (0, 1, 2 ** place, 255 - 2 ** place, 170, 85, 255):
                with self.subTest(name, world=world):
                    self.assertEqual(value(EIGHT, world, ("name", name)), world // 2 ** place % 2)

    def test_names_in_another_order(self):
        self.assertEqual(value(("a", "b"), 1, A), 1)
        self.assertEqual(value(("b", "a"), 1, A), 0)
        self.assertEqual(value(("b", "a"), 2, A), 1)
        self.assertEqual(value(("c", "b", "a"), 4, ("and", A, ("not", C))), 1)
        self.assertEqual(value(("c", "b", "a"), 1, ("and", A, ("not", C))), 0)

    def test_names_like_kinds_and_beginnings_of_one_another(self):
        names = ("not", "a", "aa", "abcdefgh", "yes")
        for place, name in enumerate(names):
            for world in range(32):
                self.assertEqual(value(names, world, ("name", name)), world // 2 ** place % 2)

    def test_many_sentences_world_by_world(self):
        for names in tuples_of_names(("c", "a", "b", "d")):
            for tree in random_trees(len(names), names, 6, 12):
                for world in range(2 ** len(names)):
                    told = value(names, world, tree)
                    self.assertIs(type(told), int)
                    self.assertEqual(told, value_by_hand(tree, standing(names, world)), (names, world, tree))

    def test_all_small_sentences(self):
        for tree in small_trees((A, B, NO), 2) + small_trees((A, B), 3)[::7]:
            for world in range(4):
                self.assertEqual(value(("b", "a"), world, tree),
                                 value_by_hand(tree, {"b": world % 2, "a": world // 2}), tree)

    def test_as_deep_as_may_be_and_somewhat_deeper(self):
        for count in (39, 40, 60, 101):
            self.assertEqual(value(("a",), 1, nots(count, A)), 1 - count % 2)
            self.assertEqual(value(("a",), 0, row("same", [A] * (count + 1))), count % 2)


class Tables(unittest.TestCase):
    def test_by_hand(self):
        for names, tree, told in (
                (("a",), A, 2), (("a",), ("not", A), 1), (("a",), YES, 3), (("a",), NO, 0),
                (("a", "b"), A, 0b1010), (("a", "b"), B, 0b1100), (("b", "a"), A, 0b1100), (("b", "a"), B, 0b1010),
                (("a", "b"), ("and", A, B), 0b1000), (("a", "b"), ("or", A, B), 0b1110),
                (("a", "b"), ("then", A, B), 0b1101), (("b", "a"), ("then", A, B), 0b1011),
                (("a", "b"), ("same", A, B), 0b1001), (("a", "b", "c"), C, 0b11110000),
                (("a", "b", "c"), YES, 255), (("a", "b", "c"), ("then", ("or", A, B), C), 0b11110001)):
            with self.subTest(names=names, tree=tree):
                self.assertEqual(table(names, tree), told)

    def test_one_to_eight_names_world_by_world(self):
        for count in range(1, 9):
            names = EIGHT[:count]
            for tree in random_trees(count, names, 7, 10) + [("name", name) for name in names]:
                told = table(names, tree)
                self.assertIs(type(told), int)
                self.assertEqual(told, sum(2 ** world for world in keepers(names, tree)), tree)
                by_value = sum(value(names, world, tree) * 2 ** world for world in range(2 ** count))
                self.assertEqual(told, by_value, tree)

    def test_names_that_the_sentence_lacks(self):
        self.assertEqual(table(EIGHT, ("name", "w")), sum(2 ** world for world in range(128, 256)))
        self.assertEqual(table(("z", "a", "y"), A), sum(2 ** world for world in (2, 3, 6, 7)))

    def test_many_parts(self):
        for seed in range(3):
            tree = big_tree(seed, EIGHT)
            self.assertEqual(table(EIGHT, tree), sum(2 ** world for world in keepers(EIGHT, tree)))

    def test_full(self):
        for count in range(1, 9):
            with self.subTest(count):
                told = full(EIGHT[:count])
                self.assertIs(type(told), int)
                self.assertEqual(told, 2 ** 2 ** count - 1)
                self.assertEqual(told, table(EIGHT[:count], YES))
        self.assertEqual(full(("abcdefgh",)), 3)

    def test_somewhat_more_names(self):
        names = EIGHT + ("x", "y")
        self.assertEqual(full(names), 2 ** 1024 - 1)
        self.assertEqual(table(names, ("name", "y")), 2 ** 1024 - 2 ** 512)
        self.assertEqual(value(names, 512, ("name", "y")), 1)


class LackingNames(unittest.TestCase):
    def test_refused_wherever_the_name_stands(self):
        for tree in LACKING:
            with self.subTest(tree=tree):
                self.assertIs(refusal(table, ("a",), tree), NoName)
                self.assertIs(refusal(value, ("a",), 0, tree), NoName)
                self.assertIs(refusal(value, ("a",), 1, tree), NoName)

    def test_not_refused_where_the_tuple_has_it(self):
        for tree in LACKING:
            with self.subTest(tree=tree):
                self.assertIsNone(refusal(table, ("a", "b", "aa", "name"), tree))
                self.assertIsNone(refusal(value, ("a", "b", "aa", "name"), 0, tree))

    def test_a_name_is_lacking_among_eight(self):
        self.assertIs(refusal(table, EIGHT, ("name", "x")), NoName)
        self.assertIs(refusal(table, EIGHT, ("name", "pq")), NoName)
        self.assertIs(refusal(value, ("pq",), 0, ("name", "p")), NoName)


if __name__ == "__main__":
    unittest.main()
