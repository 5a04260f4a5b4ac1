"""Minds that turn, and what is lost by it: points 1, 2, 14, 15 and 16."""

import copy
import itertools
import random
import unittest

from mindchange.errors import Always, Never, NoName
from mindchange.minds import firmness, flat, held, leaning
from mindchange.turning import given_up, lost, taken_on, turned
from tests.samples import (
    A, ALWAYS, B, BIG, C, EIGHT, NEVER, NO, TWO, YES, big_tree, breakers, keepers, least, nots, random_mind,
    random_trees, refusal, row_from_right, small_trees, sure_mind, turned_by_hand,
)

# none, a, b, both
MIND = (TWO, (3, 0, 5, 1))
LEANS = (-BIG, -7, -1, 0, 1, 2, 7, BIG)
MINDS = (MIND, flat(TWO), (TWO, (0, 0, 4, BIG)), (TWO, (BIG, 0, BIG, BIG)), (TWO, (7, 7, 0, 0)))
# a name that isn't told, also where nothing hangs on it
LACKING = (
    C, ("not", C), ("or", C, YES), ("or", YES, C), ("or", C, ("not", C)), ("and", C, NO), ("and", NO, C),
    ("then", C, C), ("and", A, C), nots(39, C),
)


def sentences(seed, names, count):
    """Sentences that are neither always nor never so."""
    return [tree for tree in random_trees(seed, names, 4, count) if breakers(names, tree) and keepers(names, tree)]


def held_one(mind, tree):
    """The sentence or its "not", where one of them is held."""
    return tree if least(mind, breakers(mind[0], tree)) != 0 else ("not", tree)


SMALL = [tree for tree in small_trees((A, B), 2) if breakers(TWO, tree) and keepers(TWO, tree)]


class Minds(unittest.TestCase):
    def is_mind(self, told, mind):
        self.assertEqual(told, mind)
        self.assertEqual([type(part) for part in (told, *told)], [tuple, tuple, tuple])
        self.assertEqual({type(rank) for rank in told[1]}, {int})
        self.assertEqual(min(told[1]), 0)

    def refused(self, function, things, error):
        with self.subTest(things=things):
            self.assertIs(refusal(function, *things), error)


class Turned(Minds):
    def test_by_hand(self):
        for tree, lean, ranks in (
                (A, 0, (0, 0, 2, 1)), (A, 2, (2, 0, 4, 1)), (A, -2, (0, 2, 2, 3)), (A, 3, (3, 0, 5, 1)),
                (B, 0, (3, 0, 4, 0)), (B, 6, (9, 6, 4, 0)), (B, -6, (3, 0, 10, 6)), (B, -1, (3, 0, 5, 1)),
                (("and", A, B), 1, (4, 1, 6, 0)), (("or", A, B), 1, (1, 0, 5, 1)), (("same", A, B), 0, (2, 0, 5, 0)),
                (("not", A), BIG, (0, BIG, 2, BIG + 1)), (("then", B, A), -BIG, (BIG + 3, BIG, 0, BIG + 1))):
            with self.subTest(tree=tree, lean=lean):
                self.is_mind(turned(MIND, tree, lean), (TWO, ranks))

    def test_the_flat_mind(self):
        self.is_mind(turned(flat(TWO), A, 0), flat(TWO))
        self.is_mind(turned(flat(TWO), A, 4), (TWO, (4, 0, 4, 0)))
        self.is_mind(turned(flat(TWO), A, -4), (TWO, (0, 4, 0, 4)))
        self.is_mind(turned(flat(("b", "a")), A, 4), (("b", "a"), (4, 4, 0, 0)))

    def test_each_lean_and_the_way_back(self):
        for mind in MINDS:
            for tree in SMALL:
                for lean in LEANS:
                    told = turned(mind, tree, lean)
                    self.is_mind(told, turned_by_hand(mind, tree, lean))
                    self.assertEqual(leaning(told, tree), lean)
                    self.assertEqual(turned(told, tree, leaning(mind, tree)), mind)

    def test_more_names(self):
        for count in range(1, 9):
            mind = random_mind(count, EIGHT[:count])
            for place, tree in enumerate(sentences(count, mind[0], 20)):
                lean = LEANS[place % len(LEANS)]
                told = turned(mind, tree, lean)
                self.is_mind(told, turned_by_hand(mind, tree, lean))
                self.assertEqual(leaning(told, tree), lean)
                self.assertEqual(turned(told, tree, leaning(mind, tree)), mind)

    def test_its_not_turned_the_other_way(self):
        for tree in SMALL:
            for lean in LEANS:
                self.assertEqual(turned(MIND, ("not", tree), -lean), turned(MIND, tree, lean))

    def test_ranks_and_leans_of_any_size(self):
        mind = (TWO, (BIG, 0, BIG + 1, 10 ** 300))
        self.is_mind(turned(mind, B, 10 ** 200), (TWO, (BIG + 10 ** 200, 10 ** 200, 0, 10 ** 300 - BIG - 1)))
        self.is_mind(turned(mind, B, -10 ** 200), (TWO, (BIG, 0, 10 ** 200, 10 ** 300 - BIG - 1 + 10 ** 200)))

    def test_many_parts_and_deep_ones(self):
        mind = random_mind(5, EIGHT)
        for seed in range(3):
            tree = ("same", big_tree(seed, EIGHT), ("name", "q"))
            self.is_mind(turned(mind, tree, 5), turned_by_hand(mind, tree, 5))
        self.is_mind(turned(MIND, nots(39, A), 2), turned_by_hand(MIND, ("not", A), 2))

    def test_always_and_never(self):
        for mind in MINDS:
            for lean in LEANS:
                for tree in ALWAYS:
                    self.refused(turned, (mind, tree, lean), Always)
                for tree in NEVER:
                    self.refused(turned, (mind, tree, lean), Never)

    def test_lacking_names(self):
        for tree in LACKING:
            for lean in (-1, 0, 1):
                self.refused(turned, (MIND, tree, lean), NoName)


class GivenUp(Minds):
    def test_by_hand(self):
        for tree, ranks in (
                (A, (0, 0, 2, 1)), (("not", B), (3, 0, 4, 0)), (("or", A, B), (0, 0, 5, 1)),
                (("then", B, A), (3, 0, 0, 1)), (("and", A, ("not", B)), (2, 0, 4, 0))):
            with self.subTest(tree=tree):
                self.is_mind(given_up(MIND, tree), (TWO, ranks))

    def test_one_that_is_not_held(self):
        for tree in (("not", A), B, ("and", A, B), ("not", ("or", A, B)), ("same", A, B), *NEVER):
            with self.subTest(tree=tree):
                self.is_mind(given_up(MIND, tree), MIND)
        open_one = (TWO, (0, 0, 4, BIG))
        for tree in (A, ("not", A), B):
            self.is_mind(given_up(open_one, tree), open_one)

    def test_one_that_is_always_so(self):
        for mind in MINDS:
            for tree in ALWAYS:
                self.refused(given_up, (mind, tree), Always)

    def test_one_that_is_never_so(self):
        for mind in MINDS:
            for tree in NEVER:
                self.is_mind(given_up(mind, tree), mind)

    def test_many(self):
        were_held = {}
        for count in range(1, 9):
            mind = random_mind(30 + count, EIGHT[:count])
            trees = [(mind, tree) for tree in sentences(30 + count, mind[0], 20)]
            sure = sure_mind(40 + count, mind[0])
            for mind, tree in trees + [(sure, held_one(sure, tree)) for _, tree in trees]:
                told = given_up(mind, tree)
                was_held = least(mind, breakers(mind[0], tree)) > 0
                self.is_mind(told, turned_by_hand(mind, tree, 0) if was_held else mind)
                self.assertFalse(held(told, tree))
                self.assertEqual(given_up(told, tree), told)
                were_held[was_held] = True
        self.assertEqual(sorted(were_held), [False, True])

    def test_ranks_of_any_size(self):
        self.is_mind(given_up((TWO, (BIG, 0, BIG + 1, 10 ** 300)), A), (TWO, (0, 0, 1, 10 ** 300)))

    def test_lacking_names(self):
        for tree in LACKING:
            for mind in MINDS:
                self.refused(given_up, (mind, tree), NoName)


class TakenOn(Minds):
    def test_by_hand(self):
        for tree, firm, ranks in (
                # held more firmly, as firmly, less firmly
                (A, 1, (1, 0, 3, 1)), (A, 3, (3, 0, 5, 1)), (A, 8, (8, 0, 10, 1)),
                # denied
                (B, 1, (4, 1, 4, 0)), (("not", A), 2, (0, 2, 2, 3)), (("and", A, B), BIG, (BIG + 3, BIG, BIG + 5, 0))):
            with self.subTest(tree=tree, firm=firm):
                self.is_mind(taken_on(MIND, tree, firm), (TWO, ranks))

    def test_an_open_one(self):
        mind = (TWO, (0, 0, 4, BIG))
        self.is_mind(taken_on(mind, A, 2), (TWO, (2, 0, 6, BIG)))
        self.is_mind(taken_on(mind, ("not", A), 2), (TWO, (0, 2, 4, BIG + 2)))
        self.is_mind(taken_on(flat(TWO), ("or", A, B), BIG), (TWO, (BIG, 0, 0, 0)))

    def test_one_that_is_always_so(self):
        for mind in MINDS:
            for tree in ALWAYS:
                for firm in (1, 9, BIG):
                    self.is_mind(taken_on(mind, tree, firm), mind)

    def test_one_that_is_never_so(self):
        for mind in MINDS:
            for tree in NEVER:
                for firm in (1, 9, BIG):
                    self.refused(taken_on, (mind, tree, firm), Never)

    def test_many(self):
        for count in range(1, 9):
            mind = random_mind(60 + count, EIGHT[:count])
            for tree, firm in zip(sentences(60 + count, mind[0], 30), itertools.cycle((1, 2, 50, BIG, 10 ** 300))):
                told = taken_on(mind, tree, firm)
                self.is_mind(told, turned_by_hand(mind, tree, firm))
                self.assertEqual(firmness(told, tree), firm)

    def test_lacking_names(self):
        for tree in LACKING:
            for mind in MINDS:
                self.refused(taken_on, (mind, tree, 1), NoName)


class Lost(unittest.TestCase):
    def asks(self, mind, tree, others):
        """Asks, and holds the answer against the worlds; tells the places."""
        before = copy.deepcopy(others)
        told = lost(mind, tree, others)
        self.assertEqual(others, before)
        self.assertIs(type(told), list)
        names = mind[0]
        behind = mind
        if least(mind, breakers(names, tree)) > 0:
            behind = turned_by_hand(mind, tree, 0)
        gone = [place for place, other in enumerate(others) if breakers(names, other)
                and least(mind, breakers(names, other)) > 0 and least(behind, breakers(names, other)) == 0]
        for pair in told:
            self.assertEqual([type(part) for part in (pair, *pair)], [tuple, int, int])
            place, world = pair
            self.assertIn(world, breakers(names, others[place]))
            self.assertIn(world, breakers(names, tree))
            self.assertEqual(mind[1][world], least(mind, breakers(names, tree)))
        self.assertEqual([place for place, _ in told], gone)
        return gone

    def tells(self, mind, tree, others, places):
        with self.subTest(tree=tree, others=others[:5]):
            self.assertEqual(self.asks(mind, tree, others), places)

    def test_by_hand(self):
        # a, ~b and b > a are held
        self.tells(MIND, A, [A, ("not", B), ("then", B, A), ("or", A, B), B], [0, 3])
        self.tells(MIND, ("not", B), [A, ("not", B), ("then", B, A), ("or", A, B), B], [1])
        self.tells(MIND, ("or", A, B), [A, ("not", B), ("then", B, A), ("and", A, ("not", B))], [0, 3])
        self.tells(MIND, ("then", B, A), [A, ("not", B), ("or", A, B), ("then", B, A)], [0, 1, 3])
        self.tells(MIND, ("and", A, ("not", B)), [A, ("not", B), ("then", B, A)], [1])

    def test_the_whole_answer(self):
        self.assertEqual(lost(MIND, A, [("not", B), A, ("or", A, B)]), [(1, 0), (2, 0)])
        self.assertEqual(lost(MIND, ("not", B), [A, ("not", B)]), [(1, 3)])
        self.assertEqual(lost(MIND, ("then", B, A), [A, ("or", A, B), ("not", B)]), [(0, 2), (2, 2)])
        self.assertEqual(lost((("b", "a"), (3, 5, 0, 1)), A, [A]), [(0, 0)])

    def test_several_worlds_of_the_least_rank(self):
        mind = (TWO, (4, 0, 4, 9))
        self.tells(mind, A, [A, ("or", A, B), ("then", B, A), ("not", B), ("not", ("same", A, B))], [0, 1, 2, 3, 4])
        self.assertEqual(lost(mind, A, [("or", A, B), ("not", B)]), [(0, 0), (1, 2)])

    def test_worlds_nearer_than_the_breaking_ones(self):
        # giving a up leaves ~b held: the world of both has a rank, but keeps a
        self.tells((TWO, (3, 0, 5, 1)), A, [("not", B)], [])
        self.tells((TWO, (3, 0, 3, 1)), A, [("not", B)], [0])
        self.assertEqual(lost((TWO, (3, 0, 3, 1)), A, [("not", B)]), [(0, 2)])

    def test_the_given_up_one_among_the_others(self):
        self.tells(MIND, A, [A], [0])
        self.tells(MIND, A, [B, A, YES, A], [1, 3])
        self.tells(MIND, A, [nots(2, A), ("and", A, A)], [0, 1])

    def test_a_sentence_twice(self):
        self.tells(MIND, A, [("or", A, B)] * 4, [0, 1, 2, 3])
        self.tells(MIND, A, [("not", B), ("or", A, B), ("not", B), ("or", A, B)], [1, 3])

    def test_none(self):
        for mind in MINDS:
            for tree in SMALL:
                self.tells(mind, tree, [], [])

    def test_the_given_up_one_is_not_held(self):
        for tree in (B, ("not", A), ("and", A, B), *NEVER):
            self.tells(MIND, tree, [A, ("not", B), tree, YES, NO, ("or", A, B)], [])
        self.tells(flat(TWO), A, [A, B, YES, NO], [])

    def test_others_that_are_always_or_never_so(self):
        for tree in (A, ("not", B), ("or", A, B)):
            self.tells(MIND, tree, list(ALWAYS) + list(NEVER), [])

    def test_thirty_of_them(self):
        counts = []
        for seed in range(12):
            # with all ranks unlike one world alone is the nearest that breaks the sentence
            mind = (EIGHT, tuple(random.Random(seed).sample(range(256), 256)))
            others = random_trees(seed + 70, EIGHT, 3, 28)
            tree = held_one(mind, ("same", others[0], ("name", "q")))
            others = [held_one(mind, each) for each in others] + [tree, ("or", tree, ("name", "p"))]
            counts.append(len(self.asks(mind, tree, others)))
        self.assertTrue(all(2 <= count <= 28 for count in counts), counts)
        self.tells(MIND, A, [("not", B)] * 29 + [A], [29])
        self.tells(MIND, A, [A] + [("not", B)] * 29, [0])

    def test_all_small_ones(self):
        counts = {}
        for mind in MINDS + ((TWO, (2, 1, 0, 2)),):
            for tree in SMALL:
                counts[len(self.asks(mind, tree, SMALL))] = True
        self.assertGreater(len(counts), 3)

    def test_many(self):
        for count in range(1, 9):
            names = EIGHT[:count]
            for mind in (random_mind(80 + count, names), sure_mind(80 + count, names)):
                for tree in sentences(80 + count, names, 12):
                    others = random_trees(90 + count, names, 4, 8) + [tree, ("or", tree, ("name", "p"))]
                    self.asks(mind, tree, others)
                    self.asks(mind, ("not", tree), others + [("not", tree)])

    def test_the_firmness_of_one_or_the_other(self):
        for mind in MINDS:
            for tree, other in itertools.product(SMALL, SMALL):
                if held(mind, other):
                    both, firm = firmness(mind, ("or", tree, other)), firmness(mind, tree)
                    stays = both is None or both > firm or firm == 0
                    self.assertIs(lost(mind, tree, [other]) == [], stays)

    def test_ranks_of_any_size(self):
        mind = (TWO, (BIG + 1, 0, BIG, 10 ** 300))
        self.tells(mind, A, [A, ("not", B), ("or", A, B)], [0, 1])
        self.tells(mind, ("not", ("and", A, B)), [("not", B), A, ("then", A, B), ("not", ("and", A, B))], [0, 3])

    def test_many_parts_and_deep_ones(self):
        mind = sure_mind(6, EIGHT)
        big = [held_one(mind, ("same", big_tree(seed, EIGHT), ("name", "q"))) for seed in range(5)]
        self.assertIn(1, self.asks(mind, big[1], big))
        self.tells(MIND, nots(38, A), [nots(38, A), row_from_right("then", [A] * 39 + [B]), nots(39, B)], [0])

    def test_always(self):
        for mind in MINDS:
            for tree in ALWAYS:
                for others in ([], [A], [tree], [B, NO, YES]):
                    with self.subTest(tree=tree, others=others):
                        before = list(others)
                        self.assertIs(refusal(lost, mind, tree, others), Always)
                        self.assertEqual(others, before)

    def test_lacking_names(self):
        for lacking in LACKING:
            for tree, others in (
                    (lacking, []), (lacking, [A, B]), (A, [lacking]), (A, [B, lacking]), (A, [lacking, B]),
                    (lacking, [lacking]), (B, [A, lacking]), (NO, [lacking]), (A, [A] * 29 + [lacking]),
                    # ahead of Always
                    (YES, [lacking]), (("or", A, ("not", A)), [A, B, lacking]), (("or", lacking, YES), [A])):
                with self.subTest(tree=tree, others=others[-2:]):
                    before = list(others)
                    self.assertIs(refusal(lost, MIND, tree, others), NoName)
                    self.assertEqual(others, before)

    def test_changing_what_is_told_changes_nothing(self):
        others = [A, ("or", A, B)]
        first = lost(MIND, A, others)
        first.append((9, 9))
        first[0] = None
        self.assertEqual(lost(MIND, A, others), [(0, 0), (1, 0)])
        told = lost(MIND, A, others)
        others.clear()
        lost(MIND, ("not", B), others)
        self.assertEqual(told, [(0, 0), (1, 0)])


if __name__ == "__main__":
    unittest.main()
