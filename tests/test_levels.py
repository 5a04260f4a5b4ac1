"""The level of a sentence in told sentences, and its paper: points 1, 2 and 12."""

import copy
import itertools
import unittest

from mindchange.errors import NoName
from mindchange.levels import level_paper
from mindchange.minds import firmness, mind_of
from tests.samples import (
    A, ALWAYS, B, BIG, C, EIGHT, NEVER, NO, TWO, YES, big_tree, breakers, left_by_hand, nots, random_told,
    random_trees, refusal, row, row_from_right, small_trees,
)

THREE = ("a", "b", "c")
TELLING = [(A, 5), (("then", A, B), 3), (("then", B, C), 2), (("not", C), 1)]


def level_by_hand(names, told, tree):
    if not breakers(names, tree):
        return None
    ranks = [rank for _, rank in told]
    return max((least for least in ranks
                if not left_by_hand(names, [other for other, rank in told if rank >= least], tree)), default=0)


class Levels(unittest.TestCase):
    def asks(self, names, told, tree):
        """Asks, and holds the answer against the worlds; tells the level."""
        before = copy.deepcopy(told)
        answer = level_paper(names, told, tree)
        self.assertEqual(told, before)
        self.assertIs(type(answer), tuple)
        level, places, world = answer
        self.assertIs(type(places), list)
        self.assertEqual(level, level_by_hand(names, told, tree))
        if level is None:
            self.assertEqual(answer, (None, [], None))
            return None
        self.assertEqual([type(part) for part in (level, world, *places)], [int] * (2 + len(places)))
        self.world_is_right(names, told, tree, level, world)
        if level == 0:
            self.assertEqual(places, [])
        else:
            self.places_are_right(names, told, tree, level, places)
        return level

    def world_is_right(self, names, told, tree, level, world):
        greater = [other for other, rank in told if rank > level]
        self.assertIn(world, left_by_hand(names, greater, tree))

    def places_are_right(self, names, told, tree, level, places):
        self.assertEqual(places, sorted(set(places)))
        for place in places:
            self.assertIn(place, range(len(told)))
            self.assertGreaterEqual(told[place][1], level)
        self.assertFalse(left_by_hand(names, [told[place][0] for place in places], tree))
        # what doesn't follow with one place less doesn't with more less
        for one in places:
            self.assertTrue(left_by_hand(names, [told[place][0] for place in places if place != one], tree))

    def tells(self, names, told, tree, level):
        with self.subTest(told=told[:5], tree=tree):
            self.assertEqual(self.asks(names, told, tree), level)


class TheLevel(Levels):
    def test_each_level(self):
        self.tells(THREE, TELLING, A, 5)
        self.tells(THREE, TELLING, B, 3)
        self.tells(THREE, TELLING, ("and", A, B), 3)
        self.tells(THREE, TELLING, ("or", A, B), 5)
        self.tells(THREE, TELLING, C, 2)
        self.tells(THREE, TELLING, ("then", B, C), 2)
        self.tells(THREE, TELLING, ("then", A, C), 2)
        self.tells(THREE, TELLING, ("not", C), 1)
        self.tells(THREE, TELLING, NO, 1)
        self.tells(THREE, TELLING, ("not", A), 1)

    def test_0_where_it_follows_for_no_rank(self):
        self.tells(TWO, [(A, 5), (("or", A, B), 2)], B, 0)
        self.tells(TWO, [(A, 5)], ("not", A), 0)
        self.tells(TWO, [(A, 5)], NO, 0)
        self.tells(TWO, [(("then", A, B), 1), (B, 1)], A, 0)
        self.tells(TWO, [(YES, 9), (("or", A, ("not", A)), 4)], A, 0)

    def test_none_where_it_is_always_so(self):
        for tree in ALWAYS:
            for told in ([], [(A, 5)], [(tree, 3)], [(NO, 2)], [(A, 1), (("not", A), 1)]):
                self.tells(TWO, told, tree, None)

    def test_the_whole_answer(self):
        self.assertEqual(level_paper(TWO, [(A, 5), (("then", A, B), 3)], B), (3, [0, 1], 1))
        self.assertEqual(level_paper(("b", "a"), [(A, 5), (("then", A, B), 3)], B), (3, [0, 1], 2))
        self.assertEqual(level_paper(TWO, [(("not", A), 2), (("or", A, B), 7), (YES, 9)], B), (2, [0, 1], 1))
        self.assertEqual(level_paper(TWO, [(A, 4), (B, 2)], ("or", ("not", A), B)), (2, [1], 1))
        self.assertEqual(level_paper(("a",), [], A), (0, [], 0))
        self.assertEqual(level_paper(("a",), [(A, 7)], A), (7, [0], 0))
        self.assertEqual(level_paper(("a",), [(A, 7)], ("not", A)), (0, [], 1))
        self.assertEqual(level_paper(("a",), [(A, 7)], YES), (None, [], None))

    def test_none_told(self):
        for tree in small_trees((A, B), 2) + list(ALWAYS) + list(NEVER):
            self.tells(TWO, [], tree, None if not breakers(TWO, tree) else 0)
        self.tells(EIGHT, [], ("name", "w"), 0)

    def test_sentences_that_no_world_keeps_together(self):
        told = [(A, 4), (("not", A), 2), (B, 3)]
        for tree, level in ((NO, 2), (A, 4), (("not", A), 2), (B, 3), (("not", B), 2), (("and", A, B), 3)):
            self.tells(TWO, told, tree, level)
        self.tells(TWO, [(NO, 6), (A, 9)], B, 6)
        self.tells(TWO, [(NO, 6), (A, 9)], A, 9)
        self.tells(TWO, [(NO, 6), (A, 9), (B, 6)], NO, 6)
        self.tells(TWO, [(A, 3), (("not", A), 3)], B, 3)

    def test_a_sentence_told_twice(self):
        for ranks in itertools.permutations((1, 4, BIG)):
            told = [(A, rank) for rank in ranks]
            self.tells(TWO, told, A, BIG)
            self.assertEqual(level_paper(TWO, told, A)[1], [ranks.index(BIG)])
        self.tells(TWO, [(A, 4), (A, 4)], A, 4)
        self.tells(TWO, [(A, 2), (("then", A, B), 3), (A, 6)], B, 3)
        self.tells(TWO, [(A, 2), (("then", A, B), 3), (A, 6)], ("and", A, B), 3)
        self.assertEqual(level_paper(TWO, [(A, 2), (("then", A, B), 3), (A, 6)], B)[1], [1, 2])

    def test_ranks_of_any_size(self):
        told = [(A, BIG), (("then", A, B), BIG + 1), (C, 10 ** 300)]
        self.tells(THREE, told, B, BIG)
        self.tells(THREE, told, ("then", A, B), BIG + 1)
        self.tells(THREE, told, ("or", A, C), 10 ** 300)
        self.tells(THREE, told, ("and", A, C), BIG)
        self.tells(THREE, [(A, 1), (B, BIG)], ("and", A, B), 1)

    def test_names_in_other_orders(self):
        for names in itertools.permutations(THREE):
            self.tells(names, TELLING, B, 3)
            self.tells(names, TELLING, ("then", A, C), 2)
            self.tells(names, TELLING[:2], C, 0)


class ThePlaces(Levels):
    def test_none_that_could_be_spared(self):
        both = ("and", A, B)
        for told in itertools.permutations([(A, 2), (B, 2), (both, 2), (("or", A, B), 2)]):
            self.tells(TWO, list(told), both, 2)
            self.tells(TWO, list(told), ("or", A, B), 2)
            self.tells(TWO, list(told), ("same", A, B), 2)

    def test_none_of_a_lesser_rank(self):
        self.assertEqual(level_paper(TWO, [(B, 1), (A, 4), (("then", A, B), 4)], B)[:2], (4, [1, 2]))
        self.assertEqual(level_paper(TWO, [(A, 4), (B, 1), (("then", A, B), 4)], B)[:2], (4, [0, 2]))
        self.assertEqual(level_paper(TWO, [(B, 4), (A, 1), (("then", A, B), 1)], B)[:2], (4, [0]))

    def test_they_ascend_whatever_the_ranks(self):
        for ranks in itertools.permutations((1, 5, 9)):
            told = list(zip((A, B, C), ranks))
            self.assertEqual(level_paper(THREE, told, row("and", [A, B, C]))[:2], (1, [0, 1, 2]))

    def test_no_lesser_part_at_all_is_enough(self):
        for seed in range(40):
            told = random_told(seed, THREE, 5, (1, 2))
            for tree in random_trees(seed + 500, THREE, 3, 4):
                level, places, _ = level_paper(THREE, told, tree)
                parts = [part for size in range(len(places)) for part in itertools.combinations(places, size)]
                for part in parts:
                    self.assertTrue(left_by_hand(THREE, [told[place][0] for place in part], tree))

    def test_a_chain_is_needed_whole(self):
        chain = [("name", "p")] + [("then", ("name", one), ("name", two)) for one, two in zip(EIGHT, EIGHT[1:])]
        told = [(tree, 8 - place) for place, tree in enumerate(chain)]
        for place, name in enumerate(EIGHT):
            self.tells(EIGHT, told, ("name", name), 8 - place)
            self.assertEqual(level_paper(EIGHT, told, ("name", name))[1], list(range(place + 1)))
        self.tells(EIGHT, told[::-1], ("name", "w"), 1)
        self.assertEqual(level_paper(EIGHT, told[::-1], ("name", "w"))[1], list(range(8)))


class ManyOfThem(Levels):
    def test_many_told_sentences(self):
        levels = {}
        for count in range(1, 9):
            names = EIGHT[:count]
            for seed in range(8):
                told = random_told(100 * count + seed, names, seed + 1)
                for tree in random_trees(100 * count + seed + 50, names, 3, 4) + [NO]:
                    levels[self.asks(names, told, tree)] = True
        self.assertEqual(set(levels), {None, 0, 1, 2, 3, 10, BIG})

    def test_thirty_told_sentences_over_eight_names(self):
        chain = [("then", ("name", one), ("name", two)) for one, two in zip(EIGHT, EIGHT[1:])]
        told = [(tree, 10 + place) for place, tree in enumerate((chain * 5)[:29])] + [(("name", "p"), 4)]
        self.assertEqual(len(told), 30)
        self.tells(EIGHT, told, ("name", "w"), 4)
        # only the last one of each of the chain is needed on the level 32
        self.tells(EIGHT, told, ("then", ("name", "p"), ("name", "w")), 32)
        self.tells(EIGHT, told, ("not", ("name", "p")), 0)
        self.tells(EIGHT, [(YES, 2)] * 29 + [(("name", "w"), BIG)], ("name", "w"), BIG)
        self.tells(EIGHT, [(("name", "w"), BIG)] + [(YES, 2)] * 29, ("name", "w"), BIG)
        told = random_told(3, EIGHT, 30)
        for tree in random_trees(4, EIGHT, 4, 6) + [NO]:
            self.asks(EIGHT, told, tree)

    def test_thirty_that_are_all_needed(self):
        names = EIGHT[:5]
        worlds = [row("or", [("not", ("name", name)) if world >> place & 1 else ("name", name)
                             for place, name in enumerate(names)]) for world in range(30)]
        told = [(tree, 30 - place) for place, tree in enumerate(worlds)]
        tree = row("and", [("name", name) for name in names[1:]])
        self.tells(names, told, tree, 1)
        self.assertEqual(level_paper(names, told, tree)[1], list(range(30)))
        self.tells(names, told[:29], tree, 0)

    def test_many_parts_and_deep_ones(self):
        big = [big_tree(seed, EIGHT) for seed in range(3)]
        told = [(tree, place + 1) for place, tree in enumerate(big + [("not", big[1])])]
        for tree in (NO, big[0], ("not", big[2])):
            self.asks(EIGHT, told, tree)
        deep = [(nots(38, A), 3), (row_from_right("then", [A] * 39 + [B]), 2)]
        self.tells(TWO, deep, B, 2)
        self.tells(TWO, deep, nots(39, B), 0)

    def test_the_firmness_in_their_mind(self):
        for count in range(1, 6):
            names = EIGHT[:count]
            for seed in range(12):
                told = random_told(1000 * count + seed, names, seed)
                least = level_paper(names, told, NO)[0]
                mind = mind_of(names, told)
                for tree in random_trees(1000 * count + seed + 500, names, 3, 5):
                    level = level_paper(names, told, tree)[0]
                    firm = firmness(mind, tree)
                    self.assertEqual(firm, None if level is None else level - least)


class WhatIsTold(unittest.TestCase):
    def test_changing_it_changes_nothing(self):
        told = [(A, 5), (("then", A, B), 3)]
        for tree in (B, ("not", B), YES):
            with self.subTest(tree=tree):
                first = level_paper(TWO, told, tree)
                before = copy.deepcopy(first)
                first[1].append(7)
                self.assertEqual(level_paper(TWO, told, tree), before)

    def test_nothing_later_changes_it(self):
        told = [(A, 5), (("then", A, B), 3)]
        first = level_paper(TWO, told, B)
        told.append((B, 9))
        told[0] = (C, 1)
        level_paper(THREE, told, C)
        self.assertEqual(first, (3, [0, 1], 1))


class LackingNames(unittest.TestCase):
    def test_in_told_sentences_or_in_the_sentence(self):
        for told, tree in (
                ([(B, 1)], A), ([(A, 1), (B, 2)], A), ([(B, 2), (A, 1)], A), ([], B), ([(A, 1)], B), ([(B, 1)], C),
                ([(B, 1)], YES), ([(A, 1), (("or", YES, B), 1)], YES), ([], ("or", YES, B)), ([], ("then", B, B)),
                ([(NO, 1)], B), ([(NO, 9), (("and", NO, B), 1)], A), ([(A, 1)] * 29 + [(B, 1)], A),
                ([(A, 9)], ("or", A, B))):
            with self.subTest(told=told[-2:], tree=tree):
                before = list(told)
                self.assertIs(refusal(level_paper, ("a",), told, tree), NoName)
                self.assertEqual(told, before)


if __name__ == "__main__":
    unittest.main()
