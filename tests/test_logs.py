"""The log: points 1, 2 and 20."""

import copy
import random
import unittest

from mindchange.errors import Always, Never, NoAgain, NoBack, NoName, Unlike
from mindchange.logs import Log
from mindchange.minds import flat
from mindchange.pouring import poured
from mindchange.turning import given_up, taken_on, turned
from tests.samples import (
    A, ALWAYS, B, BIG, C, EIGHT, NEVER, NO, TWO, YES, big_tree, nots, random_mind, random_trees, refusal,
)

# none, a, b, both
MIND = (TWO, (3, 0, 5, 1))
OTHER = (TWO, (0, 2, 0, 7))


def refused_deeds(log):
    """Deeds that a log of the names a and b refuses, and with what."""
    deeds = [(log.take, (tree, 1), Never) for tree in NEVER] + [(log.give, (tree,), Always) for tree in ALWAYS]
    for lean in (-2, 0, 2):
        deeds += [(log.turn, (tree, lean), Always) for tree in ALWAYS]
        deeds += [(log.turn, (tree, lean), Never) for tree in NEVER]
    for tree in (C, ("or", YES, C), ("and", NO, C), ("or", C, ("not", C))):
        deeds += [(log.take, (tree, 1), NoName), (log.give, (tree,), NoName), (log.turn, (tree, 1), NoName)]
    for names in (("b", "a"), ("a", "b", "c"), ("a",), ("a", "c")):
        for pairs in ([(flat(names), 1)], [(MIND, 1), (flat(names), 1)], [(flat(names), BIG), (MIND, 1)],
                      [(MIND, 2)] * 18 + [(flat(names), 1)]):
            deeds.append((log.pour, (pairs,), Unlike))
    return deeds


class Logs(unittest.TestCase):
    def stands(self, log, minds, agains):
        """The whole of what a log tells."""
        self.assertEqual(log.minds(), minds)
        self.assertIs(type(log.minds()), list)
        self.assertEqual(log.mind(), minds[-1])
        self.assertEqual(log.backs(), len(minds) - 1)
        self.assertEqual(log.agains(), agains)
        self.assertEqual([type(log.backs()), type(log.agains())], [int, int])


class Deeds(Logs):
    def test_the_flat_mind_at_the_beginning(self):
        for count in range(1, 9):
            self.stands(Log(EIGHT[:count]), [flat(EIGHT[:count])], 0)
        self.stands(Log(("b", "a")), [flat(("b", "a"))], 0)

    def test_by_hand(self):
        log = Log(TWO)
        told = [flat(TWO)]
        for deed, things, ranks in (
                (log.take, (A, 3), (3, 0, 3, 0)), (log.turn, (B, -2), (3, 0, 5, 2)),
                (log.take, (("then", B, A), 1), (3, 0, 1, 2)), (log.give, (A,), (2, 0, 0, 2)),
                (log.pour, ([(OTHER, 2)],), (2, 4, 0, 16)), (log.turn, (A, BIG), (BIG + 2, 0, BIG, 12)),
                (log.give, (("not", B),), (BIG + 2, 0, BIG - 12, 0)), (log.turn, (B, 0), (BIG + 2, 0, BIG - 12, 0))):
            self.assertIsNone(deed(*things))
            told.append((TWO, ranks))
            self.stands(log, told, 0)

    def test_each_deed_by_the_mind_ahead(self):
        for count in range(1, 9):
            names = EIGHT[:count]
            log = Log(names)
            told = [flat(names)]
            trees = random_trees(count, names, 3, 12) + [("name", names[-1])]
            for place, tree in enumerate(trees):
                pairs = [(random_mind(place + k, names), 1 + k * BIG) for k in range(place % 4)]
                for deed, way, things in (
                        (log.take, taken_on, (tree, 1 + place)), (log.turn, turned, (tree, place - 6)),
                        (log.give, given_up, (tree,))):
                    if refusal(way, told[-1], *things) is None:
                        self.assertIsNone(deed(*things))
                        told.append(way(told[-1], *things))
                    else:
                        self.assertIs(refusal(deed, *things), refusal(way, told[-1], *things))
                    self.stands(log, told, 0)
                self.assertIsNone(log.pour(pairs))
                told.append(poured([(told[-1], 1)] + pairs))
                self.stands(log, told, 0)

    def test_a_deed_that_leaves_the_mind_stands_too(self):
        log = Log(TWO)
        told = [flat(TWO)]
        deeds = [(log.give, (A,)), (log.give, (NO,)), (log.turn, (A, 0)), (log.pour, ([],)),
                 (log.pour, ([(flat(TWO), BIG)],))] + [(log.take, (tree, 5)) for tree in ALWAYS]
        for deed, things in deeds:
            deed(*things)
            told.append(flat(TWO))
            self.stands(log, told, 0)
        log.back()
        self.stands(log, told[:-1], 1)
        log.take(A, 2)
        log.take(A, 2)
        self.stands(log, told[:-1] + [(TWO, (2, 0, 2, 0))] * 2, 0)

    def test_pour_an_empty_list(self):
        log = Log(TWO)
        log.turn(A, 4)
        log.pour([])
        self.stands(log, [flat(TWO), (TWO, (4, 0, 4, 0)), (TWO, (4, 0, 4, 0))], 0)

    def test_pour_several(self):
        ahead = (TWO, (3, 0, 3, 0))
        for pairs, ranks in (
                ([(MIND, 1)], (6, 0, 8, 1)), ([(MIND, 1), (OTHER, 1)], (4, 0, 6, 6)),
                ([(MIND, 1)] * 19, (60, 0, 98, 19)), ([(ahead, 2)], (9, 0, 9, 0)),
                ([(OTHER, BIG)], (3, 2 * BIG, 3, 7 * BIG))):
            log = Log(TWO)
            log.take(A, 3)
            log.pour(pairs)
            self.stands(log, [flat(TWO), ahead, (TWO, tuple(rank - min(ranks) for rank in ranks))], 0)

    def test_the_logs_mind_has_the_weight_1(self):
        log = Log(("a",))
        log.turn(A, 10)
        log.pour([((("a",), (0, 3)), 2)])
        self.assertEqual(log.mind(), (("a",), (4, 0)))
        log.pour([((("a",), (0, 3)), BIG)])
        self.assertEqual(log.mind(), (("a",), (0, 3 * BIG - 4)))

    def test_many_parts_and_deep_ones(self):
        log = Log(EIGHT)
        tree = ("same", big_tree(3, EIGHT), ("name", "q"))
        log.take(tree, BIG)
        log.give(nots(38, ("name", "p")))
        self.assertEqual(log.minds()[1], taken_on(flat(EIGHT), tree, BIG))
        self.assertEqual(log.backs(), 2)


class BackAndAgain(Logs):
    def three(self):
        """A log with three deeds, and its minds."""
        log = Log(TWO)
        log.take(A, 3)
        log.turn(B, -2)
        log.pour([(OTHER, 1)])
        minds = [flat(TWO), (TWO, (3, 0, 3, 0)), (TWO, (3, 0, 5, 2)), (TWO, (1, 0, 3, 7))]
        self.stands(log, minds, 0)
        return log, minds

    def test_one_behind_the_other(self):
        log, minds = self.three()
        for _ in range(3):
            for left in (3, 2, 1):
                self.assertIsNone(log.back())
                self.stands(log, minds[:left], 4 - left)
            for stand in (2, 3, 4):
                self.assertIsNone(log.again())
                self.stands(log, minds[:stand], 4 - stand)

    def test_to_and_fro(self):
        log, minds = self.three()
        log.back()
        log.back()
        log.again()
        self.stands(log, minds[:3], 1)
        log.back()
        self.stands(log, minds[:2], 2)
        log.again()
        log.again()
        self.stands(log, minds, 0)

    def test_a_new_deed_makes_an_end_of_what_was_taken_back(self):
        for deed in (lambda log: log.take(B, 1), lambda log: log.give(A), lambda log: log.turn(B, 1),
                     lambda log: log.pour([(MIND, 1)]), lambda log: log.pour([]), lambda log: log.take(YES, 1),
                     lambda log: log.turn(B, -2)):
            for steps in (1, 2, 3):
                log, minds = self.three()
                for _ in range(steps):
                    log.back()
                ahead = minds[:4 - steps]
                self.stands(log, ahead, steps)
                deed(log)
                self.stands(log, ahead + [log.mind()], 0)
                self.assertIs(refusal(log.again), NoAgain)
                log.back()
                self.stands(log, ahead, 1)
                log.again()
                self.stands(log, ahead + [log.mind()], 0)

    def test_no_back(self):
        log = Log(TWO)
        self.assertIs(refusal(log.back), NoBack)
        self.stands(log, [flat(TWO)], 0)
        log, minds = self.three()
        for _ in range(3):
            log.back()
        for _ in range(3):
            self.assertIs(refusal(log.back), NoBack)
            self.stands(log, minds[:1], 3)
        for stand in (2, 3, 4):
            log.again()
            self.stands(log, minds[:stand], 4 - stand)

    def test_no_again(self):
        log = Log(TWO)
        self.assertIs(refusal(log.again), NoAgain)
        self.stands(log, [flat(TWO)], 0)
        log, minds = self.three()
        for _ in range(3):
            self.assertIs(refusal(log.again), NoAgain)
            self.stands(log, minds, 0)
        log.back()
        log.again()
        self.assertIs(refusal(log.again), NoAgain)
        self.stands(log, minds, 0)

    def test_a_refused_deed_changes_nothing(self):
        for steps in range(4):
            log, minds = self.three()
            for _ in range(steps):
                log.back()
            for deed, things, error in refused_deeds(log):
                before = copy.deepcopy(things)
                with self.subTest(deed=deed.__name__, things=things, steps=steps):
                    self.assertIs(refusal(deed, *things), error)
                    self.assertEqual(things, before)
                    self.stands(log, minds[:4 - steps], steps)
            # what was taken back can still be done again
            for stand in range(steps):
                log.again()
                self.stands(log, minds[:5 - steps + stand], steps - stand - 1)

    def test_many_steps(self):
        for seed in range(20):
            chance = random.Random(seed)
            names = EIGHT[:1 + seed % 4]
            log, minds, gone = Log(names), [flat(names)], []
            for tree in random_trees(seed, names, 3, 60):
                deed = chance.choice(("take", "give", "turn", "pour", "back", "back", "again"))
                if deed == "back":
                    if len(minds) > 1:
                        gone.append(minds.pop())
                        log.back()
                    else:
                        self.assertIs(refusal(log.back), NoBack)
                elif deed == "again":
                    if gone:
                        minds.append(gone.pop())
                        log.again()
                    else:
                        self.assertIs(refusal(log.again), NoAgain)
                else:
                    self.does(log, deed, tree, chance, minds, gone)
                self.stands(log, minds, len(gone))

    def does(self, log, deed, tree, chance, minds, gone):
        ways = {"take": (taken_on, (tree, chance.choice((1, 2, BIG)))), "give": (given_up, (tree,)),
                "turn": (turned, (tree, chance.choice((-3, 0, 5)))),
                "pour": (lambda mind, pairs: poured([(mind, 1)] + pairs), ([(minds[0], 3), (minds[-1], 2)],))}
        way, things = ways[deed]
        error = refusal(way, minds[-1], *things)
        self.assertIs(refusal(getattr(log, deed), *things), error)
        if error is None:
            minds.append(way(minds[-1], *things))
            gone.clear()


class WhatIsTold(Logs):
    def test_a_told_list_that_its_asker_changes(self):
        log = Log(TWO)
        log.take(A, 3)
        minds = [flat(TWO), (TWO, (3, 0, 3, 0))]
        told = log.minds()
        told.append(MIND)
        told[0] = None
        self.stands(log, minds, 0)
        log.minds().clear()
        self.stands(log, minds, 0)
        log.back()
        log.minds().clear()
        self.stands(log, minds[:1], 1)
        log.again()
        self.stands(log, minds, 0)

    def test_a_told_list_that_is_held(self):
        log = Log(TWO)
        log.take(A, 3)
        told, mind = log.minds(), log.mind()
        before = copy.deepcopy(told)
        for deed in (lambda: log.turn(B, 1), lambda: log.back(), lambda: log.back(), lambda: log.again(),
                     lambda: log.pour([(MIND, 1)]), lambda: log.give(A)):
            deed()
            self.assertEqual(told, before)
            self.assertEqual(mind, (TWO, (3, 0, 3, 0)))

    def test_two_logs_beside_each_other(self):
        first, second = Log(TWO), Log(TWO)
        first.take(A, 3)
        self.stands(second, [flat(TWO)], 0)
        second.turn(B, -1)
        second.turn(B, -2)
        second.back()
        self.stands(first, [flat(TWO), (TWO, (3, 0, 3, 0))], 0)
        self.assertIs(refusal(first.again), NoAgain)
        first.back()
        self.stands(first, [flat(TWO)], 1)
        self.stands(second, [flat(TWO), (TWO, (0, 0, 1, 1))], 1)
        second.pour([(MIND, 1)])
        self.stands(first, [flat(TWO)], 1)

    def test_lists_handed_in_to_pour(self):
        log = Log(TWO)
        log.take(A, 3)
        pairs = [(MIND, 1), (OTHER, 1)]
        log.pour(pairs)
        self.assertEqual(pairs, [(MIND, 1), (OTHER, 1)])
        minds = [flat(TWO), (TWO, (3, 0, 3, 0)), (TWO, (4, 0, 6, 6))]
        self.stands(log, minds, 0)
        pairs.append((MIND, BIG))
        pairs[0] = None
        self.stands(log, minds, 0)
        log.back()
        pairs.clear()
        log.again()
        self.stands(log, minds, 0)
        empty = []
        log.pour(empty)
        self.assertEqual(empty, [])


if __name__ == "__main__":
    unittest.main()
