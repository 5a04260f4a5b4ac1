"""Minds poured together, and what they have in common: points 1, 2, 18 and 19."""

import copy
import itertools
import random
import unittest

from mindchange.errors import NoMinds, Unlike
from mindchange.minds import flat
from mindchange.pouring import common, poured
from tests.samples import BIG, EIGHT, TWO, poured_by_hand, random_mind, refusal, sure_mind

# none, a, b, both
MIND = (TWO, (3, 0, 5, 1))
OTHER = (TWO, (0, 2, 0, 7))
WIDE = (TWO, (0, 0, 4, BIG))
MINDS = (MIND, OTHER, WIDE, flat(TWO), (TWO, (BIG, 0, BIG + 1, 10 ** 300)), (TWO, (7, 7, 0, 0)))
WEIGHTS = (1, 2, 3, 17, BIG, BIG + 1, 10 ** 300)
# names that are not those of a and b in their order
UNLIKE = (("b", "a"), ("a", "b", "c"), ("c", "a", "b"), ("a",), ("b",), ("a", "c"), ("c", "b"), ("x", "y"),
          ("a", "bb"))


def common_by_hand(minds):
    return [world for world in range(2 ** len(minds[0][0])) if {mind[1][world] for mind in minds} == {0}]


def random_pairs(seed, names, count):
    chance = random.Random(seed)
    makers = (random_mind, sure_mind)
    return [(chance.choice(makers)(1000 * seed + k, names), chance.choice(WEIGHTS)) for k in range(count)]


class Poured(unittest.TestCase):
    def pours(self, pairs):
        """Pours, holds the answer against the sums, and tells it."""
        before = copy.deepcopy(pairs)
        told = poured(pairs)
        self.assertEqual(pairs, before)
        self.assertEqual(told, poured_by_hand(pairs))
        self.assertEqual([type(part) for part in (told, *told)], [tuple, tuple, tuple])
        self.assertEqual({type(rank) for rank in told[1]}, {int})
        self.assertEqual(min(told[1]), 0)
        return told

    def test_by_hand(self):
        for pairs, ranks in (
                ([(MIND, 1), (OTHER, 1)], (1, 0, 3, 6)), ([(MIND, 2), (OTHER, 1)], (4, 0, 8, 7)),
                ([(MIND, 1), (OTHER, 2)], (0, 1, 2, 12)), ([(MIND, 1), (OTHER, 3)], (0, 3, 2, 19)),
                ([(MIND, 1), (MIND, 4)], (15, 0, 25, 5)), ([(MIND, 1), (flat(TWO), BIG)], (3, 0, 5, 1)),
                ([(MIND, BIG), (OTHER, 1)], (3 * BIG - 2, 0, 5 * BIG - 2, BIG + 5)),
                ([(WIDE, 1), (OTHER, 1)], (0, 2, 4, BIG + 7)), ([(WIDE, 1), (MIND, 1)], (3, 0, 9, BIG + 1))):
            with self.subTest(pairs=pairs):
                self.assertEqual(self.pours(pairs), (TWO, ranks))

    def test_one_mind(self):
        for mind in MINDS:
            self.assertEqual(self.pours([(mind, 1)]), mind)
            for weight in WEIGHTS:
                self.assertEqual(self.pours([(mind, weight)]), (TWO, tuple(weight * rank for rank in mind[1])))

    def test_several(self):
        for some in itertools.product(MINDS, repeat=3):
            for weights in ((1, 1, 1), (1, 2, 3), (BIG, 1, 10 ** 300)):
                self.pours(list(zip(some, weights)))

    def test_each_count_up_to_twenty(self):
        for count in range(1, 21):
            self.pours(random_pairs(count, EIGHT[:1 + count % 8], count))
        self.assertEqual(self.pours([(MIND, 1)] * 20), (TWO, (60, 0, 100, 20)))
        self.assertEqual(self.pours([(OTHER, 1)] * 19 + [(MIND, 1)]), (TWO, (0, 35, 2, 131)))

    def test_more_than_twenty_are_not_refused(self):
        self.assertEqual(self.pours([(MIND, 1)] * 25), (TWO, (75, 0, 125, 25)))

    def test_more_names(self):
        for count in range(1, 9):
            for seed in range(4):
                self.pours(random_pairs(seed, EIGHT[:count], 3))

    def test_the_least_rank_is_0(self):
        # no world has rank 0 in all of them
        pairs = [((TWO, (0, 5, 5, 5)), 1), ((TWO, (5, 0, 5, 5)), 1), ((TWO, (5, 5, 0, 3)), 1)]
        self.assertEqual(common([mind for mind, _ in pairs]), [])
        self.assertEqual(self.pours(pairs), (TWO, (0, 0, 0, 3)))
        pairs = [((("a",), (0, BIG)), 1), ((("a",), (1, 0)), BIG)]
        self.assertEqual(self.pours(pairs), (("a",), (0, 0)))

    def test_any_order_tells_the_same(self):
        pairs = [(MIND, 2), (OTHER, 1), (WIDE, BIG), (MIND, 5)]
        told = poured(pairs)
        for order in itertools.permutations(pairs):
            self.assertEqual(poured(list(order)), told)
        many = random_pairs(5, EIGHT, 20)
        told = poured(many)
        for seed in range(5):
            random.Random(seed).shuffle(many)
            self.assertEqual(poured(many), told)

    def test_what_was_poured_is_poured_on(self):
        for seed in range(12):
            names = EIGHT[:1 + seed % 4]
            inner, outer = random_pairs(seed, names, 3), random_pairs(seed + 50, names, 2)
            for weight in (1, 2, 7, BIG):
                told = self.pours(outer[:1] + [(poured(inner), weight)] + outer[1:])
                self.assertEqual(told, self.pours(outer + [(mind, weight * each) for mind, each in inner]))

    def test_no_minds(self):
        self.assertIs(refusal(poured, []), NoMinds)

    def test_unlike_names_at_any_place(self):
        for names in UNLIKE:
            for count in (2, 3, 20):
                for place in range(count):
                    pairs = [(MIND, 1)] * count
                    pairs[place] = (flat(names), 2)
                    before = list(pairs)
                    with self.subTest(names=names, count=count, place=place):
                        self.assertIs(refusal(poured, pairs), Unlike)
                        self.assertEqual(pairs, before)

    def test_like_names_of_another_tuple(self):
        pairs = [((tuple(["a", "b"]), MIND[1]), 1), ((tuple("ab"), OTHER[1]), 1)]
        self.assertEqual(self.pours(pairs), (TWO, (1, 0, 3, 6)))

    def test_lists_changed_later(self):
        pairs = [(MIND, 2), (OTHER, 1)]
        told = poured(pairs)
        pairs.clear()
        poured([(WIDE, 3)])
        self.assertEqual(told, (TWO, (4, 0, 8, 7)))


class Common(unittest.TestCase):
    def asks(self, minds):
        before = copy.deepcopy(minds)
        told = common(minds)
        self.assertEqual(minds, before)
        self.assertIs(type(told), list)
        self.assertLessEqual({type(world) for world in told}, {int})
        self.assertEqual(told, common_by_hand(minds))
        return told

    def test_by_hand(self):
        for minds, worlds in (
                ([MIND], [1]), ([OTHER], [0, 2]), ([flat(TWO)], [0, 1, 2, 3]), ([MIND, OTHER], []),
                ([MIND, WIDE], [1]), ([WIDE, OTHER], [0]), ([WIDE, flat(TWO)], [0, 1]), ([MIND, MIND], [1]),
                ([OTHER, (TWO, (7, 7, 0, 0))], [2]), ([MIND, WIDE, OTHER], []), ([flat(TWO)] * 20, [0, 1, 2, 3]),
                ([flat(TWO)] * 19 + [MIND], [1]), ([MIND] + [OTHER] * 19, [])):
            with self.subTest(minds=minds):
                self.assertEqual(self.asks(minds), worlds)

    def test_more_names(self):
        for count in range(1, 9):
            names = EIGHT[:count]
            for seed in range(10):
                minds = [random_mind(100 * seed + k, names) for k in range(1 + seed % 3)]
                self.asks(minds)

    def test_the_worlds_of_rank_0_of_the_poured_mind(self):
        # whatever the weights; where nothing is in common, the poured mind has a world of rank 0 all the same
        counts = {}
        for some in itertools.product(MINDS, repeat=3):
            told = self.asks(list(some))
            counts[len(told)] = True
            for weights in ((1, 1, 1), (1, 2, 3), (BIG, 1, 10 ** 300)):
                nearest = [world for world, rank in enumerate(poured(list(zip(some, weights)))[1]) if rank == 0]
                if told:
                    self.assertEqual(told, nearest)
                self.assertTrue(nearest)
        self.assertIn(0, counts)
        self.assertIn(2, counts)

    def test_no_minds(self):
        self.assertIs(refusal(common, []), NoMinds)

    def test_unlike_names_at_any_place(self):
        for names in UNLIKE:
            for count in (2, 3, 20):
                for place in range(count):
                    minds = [MIND] * count
                    minds[place] = flat(names)
                    before = list(minds)
                    with self.subTest(names=names, count=count, place=place):
                        self.assertIs(refusal(common, minds), Unlike)
                        self.assertEqual(minds, before)
        # also where nothing was in common ahead of it
        self.assertIs(refusal(common, [MIND, OTHER, flat(("a",))]), Unlike)

    def test_changing_what_is_told_changes_nothing(self):
        minds = [WIDE, flat(TWO)]
        first = common(minds)
        first.append(9)
        first[0] = None
        self.assertEqual(common(minds), [0, 1])
        told = common(minds)
        minds.clear()
        common([MIND])
        self.assertEqual(told, [0, 1])


if __name__ == "__main__":
    unittest.main()
