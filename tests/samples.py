"""What several tests draw on: sentences of all kinds, and another way than
the program's to tell their values."""

import functools
import itertools
import random

from mindchange.errors import MindError

A = ("name", "a")
B = ("name", "b")
C = ("name", "c")
YES = ("yes",)
NO = ("no",)
TWO = ("a", "b")
EIGHT = ("p", "q", "r", "s", "t", "u", "v", "w")
# the values of each kind of two parts at 00, 01, 10 and 11, by hand
VALUES = {"and": (0, 0, 0, 1), "or": (0, 1, 1, 1), "then": (1, 1, 0, 1), "same": (1, 0, 0, 1)}
BETWEEN = tuple(VALUES)
BIG = 10 ** 30
# of the names a and b
ALWAYS = (YES, ("or", A, ("not", A)), ("then", A, A), ("same", B, B), ("not", NO), ("then", NO, A))
NEVER = (NO, ("and", A, ("not", A)), ("same", A, ("not", A)), ("not", YES), ("and", NO, B))


def refusal(function, *things):
    """The very class of a refusal, None where nothing is refused."""
    try:
        function(*things)
    except MindError as error:
        return type(error)
    return None


def nots(count, tree):
    for _ in range(count):
        tree = ("not", tree)
    return tree


def row(kind, trees):
    """Sentences joined from the left."""
    whole = trees[0]
    for tree in trees[1:]:
        whole = (kind, whole, tree)
    return whole


def row_from_right(kind, trees):
    whole = trees[-1]
    for tree in reversed(trees[:-1]):
        whole = (kind, tree, whole)
    return whole


def small_trees(leaves, depth):
    """All sentences over the leaves of at most a depth."""
    trees = list(leaves)
    for _ in range(depth - 1):
        trees = list(leaves) + [("not", tree) for tree in trees] + [
            (kind, left, right) for kind in BETWEEN for left in trees for right in trees]
    return trees


def random_tree(chance, names, depth):
    if depth == 1 or chance.random() < 0.15:
        if chance.random() < 0.1:
            return chance.choice((YES, NO))
        return ("name", chance.choice(names))
    if chance.random() < 0.2:
        return ("not", random_tree(chance, names, depth - 1))
    return (chance.choice(BETWEEN), random_tree(chance, names, depth - 1), random_tree(chance, names, depth - 1))


def random_trees(seed, names, depth, count):
    chance = random.Random(seed)
    return [random_tree(chance, names, depth) for _ in range(count)]


def big_tree(seed, names):
    """A sentence of close to 2000 parts."""
    chance = random.Random(seed)
    layer = [("name", chance.choice(names)) for _ in range(990)]
    while len(layer) > 1:
        layer = [(chance.choice(BETWEEN), *layer[k:k + 2]) if k + 1 < len(layer) else layer[k]
                 for k in range(0, len(layer), 2)]
    return layer[0]


def value_by_hand(tree, of_names):
    """A sentence's value with each of its names known, by the table above."""
    if tree[0] == "name":
        return of_names[tree[1]]
    if tree[0] in ("yes", "no"):
        return 1 if tree[0] == "yes" else 0
    if tree[0] == "not":
        return 1 - value_by_hand(tree[1], of_names)
    return VALUES[tree[0]][2 * value_by_hand(tree[1], of_names) + value_by_hand(tree[2], of_names)]


def standing(names, world):
    """How the names stand in a world, as the document says it."""
    return {name: world // 2 ** place % 2 for place, name in enumerate(names)}


@functools.cache
def values_by_hand(names, tree):
    """A sentence's value in each world, asked one by one."""
    return tuple(value_by_hand(tree, standing(names, world)) for world in range(2 ** len(names)))


def keepers(names, tree):
    return [world for world, told in enumerate(values_by_hand(names, tree)) if told == 1]


def breakers(names, tree):
    return [world for world, told in enumerate(values_by_hand(names, tree)) if told == 0]


def seen_by_hand(tree, known):
    """Point 7, word by word."""
    if tree[0] == "name":
        return known.get(tree[1])
    if tree[0] in ("yes", "no"):
        return 1 if tree[0] == "yes" else 0
    left = seen_by_hand(tree[1], known)
    if tree[0] == "not":
        return None if left is None else 1 - left
    right = seen_by_hand(tree[2], known)
    if tree[0] == "then":
        left = None if left is None else 1 - left
    if tree[0] == "same":
        return None if left is None or right is None else int(left == right)
    strong = 0 if tree[0] == "and" else 1
    if strong in (left, right):
        return strong
    return None if left is None or right is None else 1 - strong


def tuples_of_names(names):
    """The tuples of one up to all of the names, and each order of some of them."""
    return [names[:count] for count in range(1, len(names) + 1)] + list(itertools.permutations(names[:3]))


def random_mind(seed, names):
    chance = random.Random(seed)
    ranks = [chance.choice((0, 1, 2, 7, BIG, BIG + 1, chance.randrange(50))) for _ in range(2 ** len(names))]
    ranks[chance.randrange(len(ranks))] = 0
    return (names, tuple(ranks))


def sure_mind(seed, names):
    """A mind with one world of rank 0, so that each sentence or its "not" is held."""
    chance = random.Random(seed)
    ranks = [chance.choice((1, 2, 7, BIG, chance.randrange(1, 50))) for _ in range(2 ** len(names))]
    ranks[chance.randrange(len(ranks))] = 0
    return (names, tuple(ranks))


def random_told(seed, names, count, ranks=(1, 2, 3, 10, BIG)):
    chance = random.Random(seed)
    return [(tree, chance.choice(ranks)) for tree in random_trees(seed, names, 4, count)]


def least(mind, worlds):
    """The least rank of worlds, None where there are none."""
    return min((mind[1][world] for world in worlds), default=None)


def mind_by_hand(names, told):
    marks = [0] * 2 ** len(names)
    for tree, rank in told:
        for world in breakers(names, tree):
            marks[world] = max(marks[world], rank)
    return (names, tuple(mark - min(marks) for mark in marks))


def left_by_hand(names, trees, tree):
    """The worlds that keep all of the trees and break the tree."""
    left = set(breakers(names, tree))
    for other in trees:
        left &= set(keepers(names, other))
    return left


def turned_by_hand(mind, tree, lean):
    """Point 14, word by word."""
    names, ranks = mind
    told = list(ranks)
    for worlds, more in ((keepers(names, tree), max(-lean, 0)), (breakers(names, tree), max(lean, 0))):
        for world in worlds:
            told[world] = ranks[world] - least(mind, worlds) + more
    return (names, tuple(told))


def poured_by_hand(pairs):
    """Point 18, word by word."""
    names = pairs[0][0][0]
    sums = []
    for world in range(2 ** len(names)):
        sums.append(sum(weight * mind[1][world] for mind, weight in pairs))
    return (names, tuple(each - min(sums) for each in sums))
