"""Minds, firmness, leaning and the mind of told sentences: points 1, 2, 9, 10 and 11."""

import copy
import itertools
import unittest

from mindchange.errors import Always, Never, NoName
from mindchange.minds import firmness, flat, held, leaning, mind_of
from tests.samples import (
    A, ALWAYS, B, BETWEEN, BIG, C, EIGHT, NEVER, NO, TWO, YES, big_tree, breakers, keepers, least, mind_by_hand, nots,
    random_mind, random_told, random_trees, refusal, row, small_trees,
)

# none, a, b, both
MIND = (TWO, (3, 0, 5, 1))


class Flat(unittest.TestCase):
    def test_it_has_0_everywhere(self):
        for count in range(1, 9):
            names = EIGHT[:count]
            with self.subTest(names=names):
                told = flat(names)
                self.assertEqual(told, (names, (0,) * 2 ** count))
                self.assertEqual([type(part) for part in (told, *told)], [tuple, tuple, tuple])
                self.assertEqual({type(rank) for rank in told[1]}, {int})

    def test_other_names(self):
        self.assertEqual(flat(("abcdefgh", "not")), (("abcdefgh", "not"), (0, 0, 0, 0)))
        self.assertEqual(flat(("b", "a"))[0], ("b", "a"))

    def test_nothing_is_held_in_it_but_what_is_always_so(self):
        for tree in small_trees((A, B), 2) + list(ALWAYS) + list(NEVER):
            with self.subTest(tree=tree):
                self.assertIs(held(flat(TWO), tree), breakers(TWO, tree) == [])
                self.assertEqual(firmness(flat(TWO), tree), None if breakers(TWO, tree) == [] else 0)


class Firmness(unittest.TestCase):
    def test_by_hand(self):
        for tree, told in (
                (A, 3), (B, 0), (("not", A), 0), (("not", B), 1), (("or", A, B), 3), (("and", A, B), 0),
                (("and", A, ("not", B)), 1), (("then", B, A), 5), (("then", A, B), 0), (("same", A, B), 0),
                (("not", ("same", A, B)), 1), (NO, 0), (YES, None)):
            with self.subTest(tree=tree):
                self.assertEqual(firmness(MIND, tree), told)
                self.assertIs(held(MIND, tree), told is None or told > 0)

    def test_none_where_no_world_breaks_it(self):
        for tree in ALWAYS:
            for mind in (MIND, flat(TWO), (TWO, (0, BIG, BIG, BIG))):
                with self.subTest(tree=tree, mind=mind):
                    self.assertIsNone(firmness(mind, tree))
                    self.assertIs(held(mind, tree), True)

    def test_0_where_no_world_keeps_it(self):
        for tree in NEVER:
            for mind in (MIND, flat(TWO), (TWO, (BIG, BIG, 0, BIG))):
                with self.subTest(tree=tree, mind=mind):
                    self.assertEqual(firmness(mind, tree), 0)
                    self.assertIs(held(mind, tree), False)

    def test_ranks_of_any_size(self):
        mind = (TWO, (BIG, 0, BIG + 1, 10 ** 300))
        self.assertEqual(firmness(mind, A), BIG)
        self.assertEqual(firmness(mind, ("then", B, A)), BIG + 1)
        self.assertEqual(firmness(mind, ("not", ("and", A, B))), 10 ** 300)
        self.assertEqual(leaning(mind, ("or", ("not", A), B)), -BIG)

    def test_many_sentences(self):
        for count in range(1, 9):
            mind = random_mind(count, EIGHT[:count])
            for tree in random_trees(count, mind[0], 5, 40):
                told = firmness(mind, tree)
                self.assertEqual(told, least(mind, breakers(mind[0], tree)), tree)
                self.assertIn(type(told), (int, type(None)))
                self.assertIs(held(mind, tree), told is None or told > 0)

    def test_names_in_another_order(self):
        mind = (("b", "a"), (0, 2, 4, 9))
        self.assertEqual(firmness(mind, ("not", B)), 2)
        self.assertEqual(firmness(mind, ("not", A)), 4)
        self.assertEqual(firmness(mind, ("not", ("and", A, B))), 9)

    def test_many_parts_and_deep_ones(self):
        mind = random_mind(77, EIGHT)
        for seed in range(3):
            tree = big_tree(seed, EIGHT)
            self.assertEqual(firmness(mind, tree), least(mind, breakers(EIGHT, tree)))
        self.assertEqual(firmness(MIND, nots(38, A)), 3)
        self.assertEqual(firmness(MIND, nots(60, A)), 3)
        self.assertIs(held(MIND, nots(39, A)), False)

    def test_lacking_names(self):
        for tree in (C, ("or", YES, C), ("and", NO, C), ("then", C, C), ("and", C, ("not", C))):
            for function in (firmness, held, leaning):
                with self.subTest(function.__name__, tree=tree):
                    self.assertIs(refusal(function, MIND, tree), NoName)
                    self.assertIs(refusal(function, flat(TWO), tree), NoName)


class Leaning(unittest.TestCase):
    def test_by_hand(self):
        for tree, told in (
                (A, 3), (("not", A), -3), (B, -1), (("not", B), 1), (("or", A, B), 3), (("and", A, B), -1),
                (("then", B, A), 5), (("and", B, ("not", A)), -5), (("same", A, B), -1),
                (("not", ("same", A, B)), 1)):
            with self.subTest(tree=tree):
                self.assertEqual(leaning(MIND, tree), told)
                self.assertIs(type(leaning(MIND, tree)), int)

    def test_open_ones(self):
        mind = (TWO, (0, 0, 4, BIG))
        self.assertEqual(leaning(mind, A), 0)
        self.assertEqual(leaning(mind, ("not", A)), 0)
        self.assertEqual(leaning(mind, B), -4)
        for tree in small_trees((A, B), 2):
            if breakers(TWO, tree) and keepers(TWO, tree):
                self.assertEqual(leaning(flat(TWO), tree), 0)

    def test_always_and_never(self):
        for mind in (MIND, flat(TWO), (TWO, (BIG, 0, BIG, BIG))):
            for tree in ALWAYS:
                with self.subTest(tree=tree, mind=mind):
                    self.assertIs(refusal(leaning, mind, tree), Always)
            for tree in NEVER:
                with self.subTest(tree=tree, mind=mind):
                    self.assertIs(refusal(leaning, mind, tree), Never)

    def test_many_sentences(self):
        signs = {}
        for count in range(1, 9):
            mind = random_mind(10 + count, EIGHT[:count])
            for tree in random_trees(20 + count, mind[0], 5, 40):
                against, in_favour = least(mind, breakers(mind[0], tree)), least(mind, keepers(mind[0], tree))
                if against is None or in_favour is None:
                    self.assertIs(refusal(leaning, mind, tree), Always if against is None else Never)
                    continue
                told = leaning(mind, tree)
                self.assertEqual(told, against - in_favour, tree)
                self.assertEqual(leaning(mind, ("not", tree)), -told)
                self.assertIs(told > 0, held(mind, tree))
                self.assertIs(told < 0, held(mind, ("not", tree)))
                signs[(told > 0) - (told < 0)] = True
        self.assertEqual(sorted(signs), [-1, 0, 1])

    def test_no_name_goes_ahead_of_always_and_never(self):
        for tree in (("or", C, YES), ("or", YES, C), ("or", C, ("not", C)), ("and", C, NO), ("and", NO, C),
                     ("and", YES, ("same", C, C))):
            self.assertIs(refusal(leaning, MIND, tree), NoName)


class MindOf(unittest.TestCase):
    def tells(self, names, told, mind):
        before = copy.deepcopy(told)
        with self.subTest(told=told[:5]):
            answer = mind_of(names, told)
            self.assertEqual(answer, mind)
            self.assertEqual([type(part) for part in (answer, *answer)], [tuple, tuple, tuple])
            self.assertEqual({type(rank) for rank in answer[1]}, {int})
            self.assertEqual(told, before)

    def test_by_hand(self):
        self.tells(TWO, [(A, 1)], (TWO, (1, 0, 1, 0)))
        self.tells(TWO, [(A, 3), (B, 2)], (TWO, (3, 2, 3, 0)))
        self.tells(TWO, [(B, 2), (A, 3)], (TWO, (3, 2, 3, 0)))
        self.tells(("b", "a"), [(A, 3), (B, 2)], (("b", "a"), (3, 3, 2, 0)))
        self.tells(TWO, [(("then", A, B), 5), (("not", B), 4)], (TWO, (0, 5, 4, 4)))

    def test_none_told(self):
        for count in range(1, 9):
            self.tells(EIGHT[:count], [], flat(EIGHT[:count]))

    def test_sentences_that_no_world_keeps_together(self):
        self.tells(TWO, [(A, 2), (("not", A), 5)], (TWO, (0, 3, 0, 3)))
        self.tells(TWO, [(A, 2), (("not", A), 2)], flat(TWO))
        self.tells(TWO, [(A, 2), (("not", A), 5), (B, 1)], (TWO, (0, 3, 0, 3)))
        self.tells(TWO, [(A, 2), (("not", A), 5), (B, 3)], (TWO, (1, 3, 0, 3)))

    def test_sentences_that_are_always_or_never_so(self):
        self.tells(TWO, [(NO, 7)], flat(TWO))
        self.tells(TWO, [(NO, 7), (A, 9), (B, 3)], (TWO, (2, 0, 2, 0)))
        self.tells(TWO, [(NO, 7), (A, 7)], flat(TWO))
        self.tells(TWO, [(YES, BIG)], flat(TWO))
        self.tells(TWO, [(YES, BIG), (A, 1)], (TWO, (1, 0, 1, 0)))

    def test_ranks_of_any_size(self):
        self.tells(TWO, [(A, BIG), (B, BIG + 1)], (TWO, (BIG + 1, BIG + 1, BIG, 0)))
        self.tells(TWO, [(A, BIG), (("not", A), BIG + 1)], (TWO, (0, 1, 0, 1)))
        self.tells(TWO, [(A, 10 ** 300), (B, 1)], (TWO, (10 ** 300, 1, 10 ** 300, 0)))

    def test_a_sentence_told_twice(self):
        for ranks in itertools.permutations((1, 4, BIG)):
            self.tells(TWO, [(A, rank) for rank in ranks], (TWO, (BIG, 0, BIG, 0)))
        self.tells(TWO, [(A, 4), (A, 4)], (TWO, (4, 0, 4, 0)))
        self.tells(TWO, [(A, 4), (B, 2), (A, 1)], (TWO, (4, 2, 4, 0)))

    def test_many_told_sentences(self):
        for count in range(1, 9):
            names = EIGHT[:count]
            for seed in range(8):
                told = random_told(100 * count + seed, names, seed + 1)
                self.tells(names, told, mind_by_hand(names, told))

    def test_three_hundred_told_sentences(self):
        trees = [(kind, ("name", one), ("not", ("name", other)))
                 for kind in BETWEEN for one in EIGHT for other in EIGHT]
        trees += [row("or", [("name", name) for name in EIGHT])] * 44
        told = [(tree, 1 + place * 7 % 301) for place, tree in enumerate(trees)]
        self.assertEqual(len(told), 300)
        self.tells(EIGHT, told, mind_by_hand(EIGHT, told))
        last = [(YES, 1)] * 299 + [(("name", "w"), BIG)]
        self.tells(EIGHT, last, (EIGHT, (BIG,) * 128 + (0,) * 128))
        self.tells(EIGHT, last[::-1], (EIGHT, (BIG,) * 128 + (0,) * 128))

    def test_lacking_names(self):
        for told in ([(B, 1)], [(A, 1), (B, 1)], [(B, 1), (A, 1)], [(("or", YES, B), 2)], [(("and", B, NO), 2)],
                     [(NO, 9), (("then", B, B), 1)], [(A, 1)] * 299 + [(B, 1)]):
            before = list(told)
            with self.subTest(told=told[-2:]):
                self.assertIs(refusal(mind_of, ("a",), told), NoName)
                self.assertEqual(told, before)

    def test_what_was_told_stays(self):
        told = [(A, 3), (B, 2)]
        mind = mind_of(TWO, told)
        told.append((("not", A), 9))
        told[0] = (B, 1)
        mind_of(TWO, told)
        self.assertEqual(mind, (TWO, (3, 2, 3, 0)))

    def test_it_is_a_mind(self):
        for seed in range(20):
            told = [(tree, 1 + seed) for tree in random_trees(seed, TWO, 3, 4)]
            mind = mind_of(TWO, told)
            self.assertEqual(min(mind[1]), 0)
            self.assertEqual(len(mind[1]), 4)
            self.assertIs(held(mind, YES), True)
            self.assertIs(held(mind, NO), False)


if __name__ == "__main__":
    unittest.main()
