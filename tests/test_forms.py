"""A sentence for each table, and the sentences of a mind: points 1 and 13."""

import itertools
import random
import unittest

from mindchange.forms import sentences_of, tree_of
from mindchange.minds import flat, mind_of
from mindchange.tables import full, table
from tests.samples import BETWEEN, BIG, EIGHT, TWO, keepers, random_mind


def parts(tree):
    """All parts of a sentence, the sentence itself too."""
    if tree[0] == "name":
        return [tree]
    return [tree] + [part for under in tree[1:] for part in parts(under)]


def layers(tree):
    if tree[0] == "name":
        return 1
    return 1 + max((layers(part) for part in tree[1:]), default=0)


def table_by_hand(names, tree):
    return sum(2 ** world for world in keepers(names, tree))


class Sentences(unittest.TestCase):
    def is_a_sentence(self, names, tree):
        """Of the form of point 3, within its bounds, and of names of the tuple."""
        found = parts(tree)
        for part in found:
            self.assertIs(type(part), tuple)
            if part[0] == "name":
                self.assertEqual(len(part), 2)
                self.assertIn(part[1], names)
            else:
                lengths = {"yes": 1, "no": 1, "not": 2, **{kind: 3 for kind in BETWEEN}}
                self.assertEqual(len(part), lengths[part[0]])
        self.assertLessEqual(len(found), 2000)
        self.assertLessEqual(layers(tree), 40)


class OfTables(Sentences):
    def tells(self, names, told):
        tree = tree_of(names, told)
        self.is_a_sentence(names, tree)
        self.assertEqual(table(names, tree), told, (names, told))
        return tree

    def test_each_table_over_one_two_and_three_names(self):
        for names in (("a",), TWO, ("b", "a"), ("abcdefgh", "not", "c")):
            for told in range(2 ** 2 ** len(names)):
                tree = self.tells(names, told)
                self.assertEqual(table_by_hand(names, tree), told)

    def test_many_tables_over_more_names(self):
        for count in range(4, 9):
            chance = random.Random(count)
            for _ in range(60):
                # of few, of many and of about half of the worlds
                told = chance.getrandbits(2 ** count)
                other = chance.getrandbits(2 ** count)
                for each in (told, told & other, told | other):
                    self.tells(EIGHT[:count], each)

    def test_worlds_asked_one_by_one(self):
        chance = random.Random(1)
        for count in range(4, 9):
            told = chance.getrandbits(2 ** count)
            self.assertEqual(table_by_hand(EIGHT[:count], tree_of(EIGHT[:count], told)), told)

    def test_none_and_all(self):
        for count in range(1, 9):
            names = EIGHT[:count]
            self.assertEqual(keepers(names, self.tells(names, 0)), [])
            self.assertEqual(len(keepers(names, self.tells(names, full(names)))), 2 ** count)

    def test_every_other_world(self):
        for count in range(1, 9):
            names = EIGHT[:count]
            for step in (2, 3, 4, 5, 7, 16):
                for first in range(step):
                    self.tells(names, sum(2 ** world for world in range(first, 2 ** count, step)))

    def test_one_world_and_all_but_one(self):
        for count in (1, 4, 8):
            names = EIGHT[:count]
            for world in range(2 ** count):
                self.tells(names, 2 ** world)
                self.tells(names, full(names) ^ 2 ** world)

    def test_worlds_of_odd_sums_and_of_some_size(self):
        for count in range(1, 9):
            names = EIGHT[:count]
            sums = [bin(world).count("1") for world in range(2 ** count)]
            for told in range(2, 6):
                for rest in range(told):
                    self.tells(names, sum(2 ** world for world, each in enumerate(sums) if each % told == rest))
            for least in range(count + 1):
                self.tells(names, sum(2 ** world for world, each in enumerate(sums) if each >= least))

    def test_tables_of_parts_that_are_all_unlike(self):
        # each row of 4 or 8 or 16 worlds is another one, so nothing is shared
        for size in (4, 8, 16):
            told = 0
            for place in range(256 // size):
                told |= (place * 37 % 2 ** size) << (place * size)
                told ^= (place * 11 % 2 ** size) << (place * size)
            self.tells(EIGHT, told)
        self.tells(EIGHT, int("0110" * 64, 2))
        self.tells(EIGHT, int("01101001" * 32, 2))
        self.tells(EIGHT, sum((6 if place % 3 else 9) << 4 * place for place in range(64)))

    def test_the_same_when_asked_again(self):
        first = tree_of(TWO, 6)
        tree_of(TWO, 9)
        tree_of(("b", "a"), 6)
        self.assertEqual(tree_of(TWO, 6), first)


class OfMinds(Sentences):
    def tells(self, mind):
        names, ranks = mind
        told = sentences_of(mind)
        self.assertIs(type(told), list)
        self.assertEqual([rank for _, rank in told], sorted(set(ranks) - {0}, reverse=True))
        for pair in told:
            self.assertIs(type(pair), tuple)
            tree, rank = pair
            self.assertIs(type(rank), int)
            self.is_a_sentence(names, tree)
            self.assertEqual(table(names, tree),
                             sum(2 ** world for world, other in enumerate(ranks) if other < rank))
        self.assertEqual(mind_of(names, told), mind)
        return told

    def test_by_hand(self):
        told = self.tells((TWO, (3, 0, 5, 1)))
        self.assertEqual([(keepers(TWO, tree), rank) for tree, rank in told], [([0, 1, 3], 5), ([1, 3], 3), ([1], 1)])
        told = self.tells((("a",), (0, 7)))
        self.assertEqual([(keepers(("a",), tree), rank) for tree, rank in told], [([0], 7)])

    def test_the_flat_mind(self):
        for count in range(1, 9):
            self.assertEqual(self.tells(flat(EIGHT[:count])), [])

    def test_all_small_minds(self):
        for ranks in itertools.product((0, 1, 3, BIG), repeat=4):
            if min(ranks) == 0:
                self.tells((TWO, ranks))

    def test_ranks_that_several_worlds_have(self):
        self.assertEqual(len(self.tells((TWO, (4, 4, 0, 4)))), 1)
        self.assertEqual(len(self.tells((TWO, (4, 2, 0, 2)))), 2)
        self.assertEqual(len(self.tells((TWO, (0, 2, 0, 2)))), 1)

    def test_ranks_of_any_size(self):
        self.tells((TWO, (BIG, 0, 10 ** 300, BIG + 1)))
        self.tells((TWO, (BIG + 1, BIG, 1, 0)))
        self.tells((EIGHT, tuple(world * BIG + world for world in range(256))))

    def test_many_minds(self):
        for count in range(1, 9):
            for seed in range(6):
                self.tells(random_mind(100 * count + seed, EIGHT[:count]))

    def test_eight_names_and_all_ranks_unlike(self):
        for seed, step in ((0, 1), (1, BIG + 1)):
            ranks = [rank * step for rank in random.Random(seed).sample(range(256), 256)]
            self.assertEqual(len(self.tells((EIGHT, tuple(ranks)))), 255)

    def test_changing_what_is_told_changes_nothing(self):
        mind = (TWO, (3, 0, 5, 1))
        first = sentences_of(mind)
        before = list(first)
        first.pop()
        first[0] = None
        self.assertEqual(sentences_of(mind), before)
        self.assertEqual(mind, (TWO, (3, 0, 5, 1)))
        told = sentences_of(flat(TWO))
        told.append(1)
        self.assertEqual(sentences_of(flat(TWO)), [])


if __name__ == "__main__":
    unittest.main()
