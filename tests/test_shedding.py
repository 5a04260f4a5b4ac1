"""Reasons, and what goes where a sentence is shed: points 1, 2 and 17."""

import copy
import itertools
import unittest

from mindchange.errors import Always, NoName
from mindchange.shedding import shed
from tests.samples import (
    A, ALWAYS, B, BIG, C, EIGHT, NEVER, NO, TWO, YES, big_tree, breakers, left_by_hand, nots, random_told,
    random_trees, refusal, row, row_from_right,
)

THREE = ("a", "b", "c")


def follows_from(names, told, places, tree):
    return not left_by_hand(names, [told[place][0] for place in places], tree)


def reasons_by_hand(names, told, tree):
    """All reasons, told by trying each part of the places."""
    reasons = []
    for size in range(len(told) + 1):
        for places in itertools.combinations(range(len(told)), size):
            lesser = any(set(reason) <= set(places) for reason in reasons)
            if not lesser and follows_from(names, told, places, tree):
                reasons.append(list(places))
    return reasons


class Shedding(unittest.TestCase):
    def asks(self, names, told, tree):
        """Asks, and holds the answer against all reasons; tells the places that go."""
        before = copy.deepcopy(told)
        answer = shed(names, told, tree)
        self.assertEqual(told, before)
        self.assertEqual((type(answer), len(answer)), (tuple, 2))
        kept, papers = answer
        self.assertEqual([type(kept), type(papers)], [list, list])
        self.assertEqual({type(place) for place in kept} | {int}, {int})
        reasons = reasons_by_hand(names, told, tree)
        for paper in papers:
            self.assertEqual([type(part) for part in (paper, *paper)], [tuple, int, list])
            place, reason = paper
            self.assertIn(reason, reasons)
            self.assertIn(place, reason)
            self.assertEqual(told[place][1], min(told[other][1] for other in reason))
        gone = [place for place in range(len(told)) if any(
            place in reason and told[place][1] == min(told[other][1] for other in reason) for reason in reasons)]
        self.assertEqual([place for place, _ in papers], gone)
        self.assertEqual(kept, [place for place in range(len(told)) if place not in gone])
        self.assertFalse(follows_from(names, told, kept, tree))
        return gone

    def tells(self, names, told, tree, gone):
        with self.subTest(told=told, tree=tree):
            self.assertEqual(self.asks(names, told, tree), gone)


class WhatGoes(Shedding):
    def test_one_reason(self):
        told = [(A, 5), (("then", A, B), 3), (C, 1)]
        self.tells(THREE, told, B, [1])
        self.assertEqual(shed(THREE, told, B), ([0, 2], [(1, [0, 1])]))
        self.tells(THREE, told, A, [0])
        self.tells(THREE, told, C, [2])
        self.tells(THREE, told, ("and", A, C), [2])
        self.assertEqual(shed(THREE, told, ("and", A, C)), ([0, 1], [(2, [0, 2])]))

    def test_several_reasons(self):
        told = [(A, 5), (("then", A, B), 3), (B, 4), (("and", A, B), 1)]
        self.tells(TWO, told, B, [1, 2, 3])
        self.assertEqual(shed(TWO, told, B), ([0], [(1, [0, 1]), (2, [2]), (3, [3])]))
        self.tells(TWO, told, A, [0, 3])
        self.tells(TWO, told, ("or", A, B), [0, 2, 3])

    def test_one_in_several_reasons(self):
        # a stands in two reasons, and has the least rank in one of them alone
        told = [(A, 3), (("then", A, B), 5), (("then", A, C), 1), (("then", C, B), 9)]
        self.tells(THREE, told, B, [0, 2])
        self.assertEqual(shed(THREE, told, B), ([1, 3], [(0, [0, 1]), (2, [0, 2, 3])]))

    def test_one_that_stands_in_reasons_but_never_as_the_least(self):
        told = [(A, 9), (("then", A, B), 4), (("or", ("not", A), B), 2)]
        self.tells(TWO, told, B, [1, 2])
        self.assertEqual(shed(TWO, told, B), ([0], [(1, [0, 1]), (2, [0, 2])]))

    def test_several_of_the_least_rank_in_a_reason(self):
        told = [(A, 2), (("then", A, B), 2), (("then", B, C), 7)]
        self.tells(THREE, told, C, [0, 1])
        self.assertEqual(shed(THREE, told, C), ([2], [(0, [0, 1, 2]), (1, [0, 1, 2])]))
        self.tells(THREE, [(A, 2), (B, 7), (C, 2)], row("and", [A, B, C]), [0, 2])

    def test_ranks_all_alike(self):
        told = [(A, 4), (("then", A, B), 4), (("then", B, C), 4), (("or", A, B), 4)]
        self.tells(THREE, told, C, [0, 1, 2, 3])
        self.tells(THREE, told, B, [0, 1, 3])
        self.tells(THREE, told, A, [0])
        self.tells(THREE, [(YES, 1), (A, 1), (B, 1)], ("or", A, B), [1, 2])

    def test_a_reason_with_a_lesser_rank_is_no_such_reason(self):
        # each reason has the first one, and nothing else is of its rank
        told = [(("or", A, C), 1), (("not", C), 5), (("or", A, ("not", C)), 3)]
        self.tells(THREE, told, A, [0])
        told = [(("or", A, B), 5), (("or", A, ("not", B)), 3), (("not", B), 4), (B, 1)]
        self.tells(TWO, told, A, [1, 2, 3])
        self.tells(TWO, told, NO, [3])

    def test_places_that_could_be_spared_stay(self):
        self.tells(THREE, [(A, 5), (C, 1), (("then", A, B), 3), (("or", A, C), 1)], B, [2])
        self.tells(TWO, [(("and", A, B), 2), (("or", A, B), 1), (A, 2)], A, [0, 2])
        self.tells(TWO, [(("or", A, B), 1), (YES, 1), (A, 2)], A, [2])

    def test_none_told(self):
        for tree in (A, ("not", A), NO, ("or", A, B)):
            self.tells(TWO, [], tree, [])
            self.assertEqual(shed(TWO, [], tree), ([], []))

    def test_one_that_follows_from_no_told_ones(self):
        told = [(A, 5), (("or", A, B), 1), (("then", B, A), 2)]
        self.tells(TWO, told, B, [])
        self.assertEqual(shed(TWO, told, B), ([0, 1, 2], []))
        self.tells(TWO, told, NO, [])
        self.tells(TWO, [(YES, 3), (("then", A, A), 1)], A, [])
        for tree in NEVER:
            self.tells(TWO, [(A, 2), (B, 1)], tree, [])

    def test_a_sentence_told_twice(self):
        self.tells(TWO, [(A, 1), (A, 8)], A, [0, 1])
        self.assertEqual(shed(TWO, [(A, 8), (A, 1)], A), ([], [(0, [0]), (1, [1])]))
        told = [(A, 1), (("then", A, B), 3), (A, 8)]
        self.tells(TWO, told, B, [0, 1])
        self.assertEqual(shed(TWO, told, B), ([2], [(0, [0, 1]), (1, [1, 2])]))
        self.tells(TWO, [(A, 4), (B, 4), (A, 4)], ("and", A, B), [0, 1, 2])

    def test_told_sentences_that_no_world_keeps_together(self):
        told = [(A, 4), (("not", A), 2), (B, 3)]
        self.tells(TWO, told, NO, [1])
        self.assertEqual(shed(TWO, told, NO), ([0, 2], [(1, [0, 1])]))
        self.tells(TWO, told, B, [1, 2])
        self.tells(TWO, told, A, [0])
        self.tells(TWO, told, ("not", A), [1])
        self.tells(TWO, told, ("not", B), [1])
        self.tells(TWO, [(NO, 6), (A, 9)], A, [0, 1])
        self.tells(TWO, [(NO, 6), (A, 9)], B, [0])
        for tree in (*NEVER, A, B):
            self.tells(TWO, [(NO, 6), (("and", A, ("not", A)), 2), (NO, 1)], tree, [0, 1, 2])

    def test_ranks_of_any_size(self):
        told = [(A, BIG), (("then", A, B), BIG + 1), (B, 10 ** 300), (("then", A, B), BIG - 1)]
        self.tells(TWO, told, B, [0, 2, 3])
        self.tells(TWO, told[:2], B, [0])

    def test_names_in_other_orders(self):
        for names in itertools.permutations(THREE):
            self.tells(names, [(A, 3), (("then", A, B), 5), (("then", A, C), 1), (("then", C, B), 9)], B, [0, 2])

    def test_all_orders_of_the_told_ones(self):
        for told in itertools.permutations([(A, 3), (("then", A, B), 5), (("then", A, C), 1), (("then", C, B), 9)]):
            self.tells(THREE, list(told), B, [place for place, pair in enumerate(told) if pair[1] in (1, 3)])


class ManyOfThem(Shedding):
    def test_many(self):
        counts = {}
        for count in range(1, 6):
            names = EIGHT[:count]
            for seed in range(20):
                told = random_told(100 * count + seed, names, 2 + seed % 6, (1, 2, 3, BIG))
                for tree in random_trees(7000 + 100 * count + seed, names, 3, 4) + [NO]:
                    if breakers(names, tree):
                        counts[len(self.asks(names, told, tree))] = True
        self.assertGreater(len(counts), 5)

    def test_small_sentences_of_few_ranks(self):
        # told sentences that have many reasons of several places each
        trees = [("or", *pair) for pair in itertools.combinations((A, B, C, ("not", A), ("not", B), ("not", C)), 2)]
        counts = {}
        for seed in range(60):
            told = [(trees[(seed * 7 + step * (seed % 5 + 1)) % 15], (seed * step + step) % 3 + 1) for step in range(7)]
            for tree in (A, ("not", B), ("or", B, C), NO):
                counts[len(self.asks(THREE, told, tree))] = True
        self.assertGreater(len(counts), 5)

    def test_ten_told_sentences(self):
        chain = [("then", ("name", one), ("name", two)) for one, two in zip(EIGHT, EIGHT[1:])]
        told = [(tree, 3 + place) for place, tree in enumerate([("name", "p")] + chain)]
        told += [(("name", "t"), 1), (("then", ("name", "p"), ("name", "w")), 2)]
        self.assertEqual(len(told), 10)
        self.tells(EIGHT, told, ("name", "w"), [0, 8, 9])
        self.tells(EIGHT, told, ("name", "s"), [0])
        for seed in range(3):
            told = random_told(seed, EIGHT[:4], 10, (1, 2, 3))
            for tree in (("name", "p"), ("or", ("name", "q"), ("not", ("name", "r"))), NO):
                self.asks(EIGHT[:4], told, tree)

    def test_ten_that_are_all_needed(self):
        # each of them is broken by one world alone
        names = EIGHT[:4]
        worlds = [row("or", [("not", ("name", name)) if world >> place & 1 else ("name", name)
                             for place, name in enumerate(names)]) for world in range(10)]
        tree = ("and", ("name", "s"), ("or", ("name", "q"), ("name", "r")))
        self.assertEqual(breakers(names, tree), list(range(10)))
        self.tells(names, [(each, 1) for each in worlds], tree, list(range(10)))
        self.tells(names, [(each, 5 + place % 3) for place, each in enumerate(worlds)], tree, [0, 3, 6, 9])
        self.tells(names, [(each, 10 - place) for place, each in enumerate(worlds)], tree, [9])
        self.tells(names, [(each, 1) for each in worlds[:9]], tree, [])

    def test_many_parts_and_deep_ones(self):
        big = [big_tree(seed, EIGHT) for seed in range(3)]
        told = [(tree, place + 1) for place, tree in enumerate(big + [("not", big[1])])]
        for tree in (NO, ("and", big[0], ("name", "p"))):
            self.asks(EIGHT, told, tree)
        deep = [(nots(38, A), 3), (row_from_right("then", [A] * 39 + [B]), 2)]
        self.tells(TWO, deep, B, [1])
        self.tells(TWO, deep, nots(39, B), [])


class WhatIsTold(unittest.TestCase):
    def test_changing_it_changes_nothing(self):
        told = [(A, 2), (("then", A, B), 2), (C, 7)]
        before = ([2], [(0, [0, 1]), (1, [0, 1])])
        first = shed(THREE, told, B)
        self.assertEqual(first, before)
        first[1][0][1].append(9)
        # each reason is a list of its own
        self.assertEqual(first[1][1], (1, [0, 1]))
        first[0].clear()
        first[1].pop()
        self.assertEqual(shed(THREE, told, B), before)
        first = shed(THREE, [], B)
        first[0].append(1)
        first[1].append(1)
        self.assertEqual(shed(THREE, [], B), ([], []))

    def test_nothing_later_changes_it(self):
        told = [(A, 2), (("then", A, B), 3)]
        first = shed(TWO, told, B)
        told.append((B, 9))
        told[0] = (YES, 1)
        shed(TWO, told, A)
        self.assertEqual(first, ([1], [(0, [0, 1])]))


class WrongOnes(unittest.TestCase):
    def refused(self, names, told, tree, error):
        with self.subTest(told=told[-2:], tree=tree):
            before = list(told)
            self.assertIs(refusal(shed, names, told, tree), error)
            self.assertEqual(told, before)

    def test_always(self):
        for tree in ALWAYS:
            for told in ([], [(A, 5)], [(tree, 3)], [(NO, 2)], [(A, 1), (("not", A), 1)], [(A, 1)] * 10):
                self.refused(TWO, told, tree, Always)

    def test_lacking_names(self):
        for told, tree in (
                ([(B, 1)], A), ([(A, 1), (B, 2)], A), ([(B, 2), (A, 1)], A), ([], B), ([(A, 1)], B), ([(B, 1)], C),
                ([(("or", YES, B), 1)], A), ([(NO, 1)], B), ([(NO, 9), (("and", NO, B), 1)], A),
                ([(A, 1)] * 9 + [(B, 1)], A), ([(A, 9)], ("or", A, B))):
            self.refused(("a",), told, tree, NoName)

    def test_no_name_goes_ahead_of_always(self):
        for told, tree in (
                ([(B, 1)], YES), ([(A, 1), (("or", YES, B), 1)], YES), ([], ("or", YES, B)), ([], ("then", B, B)),
                ([(A, 1)], ("or", B, ("not", B))), ([(B, 1)], ("or", A, ("not", A))), ([(A, 1)] * 9 + [(B, 1)], YES)):
            self.refused(("a",), told, tree, NoName)


if __name__ == "__main__":
    unittest.main()
