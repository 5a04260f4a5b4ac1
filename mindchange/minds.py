"""Minds: a rank for each world, and what is held by it."""

from mindchange.errors import Always, Never
from mindchange.tables import bit_at, breaking, table


def flat(names):
    return (names, (0,) * (1 << len(names)))


def least_rank(ranks, worlds):
    return min([rank for world, rank in enumerate(ranks) if bit_at(worlds, world) == 1], default=None)


def firmness(mind, tree):
    return least_rank(mind[1], breaking(mind[0], tree))


def held(mind, tree):
    firm = firmness(mind, tree)
    return firm is None or firm > 0


def both_leasts(mind, tree):
    # the least rank of the worlds that break the sentence, and of those that keep it
    against = firmness(mind, tree)
    if against is None:
        raise Always("no world breaks the sentence")
    in_favour = least_rank(mind[1], table(mind[0], tree))
    if in_favour is None:
        raise Never("no world keeps the sentence")
    return (against, in_favour)


def leaning(mind, tree):
    leasts = both_leasts(mind, tree)
    return leasts[0] - leasts[1]


def greatest_first(ranks):
    # each rank once
    found = {}
    for rank in ranks:
        found[rank] = True
    return sorted(found, reverse=True)


def less_the_least(marks):
    least = min(marks)
    return tuple([mark - least for mark in marks])


def marked(marks, worlds, rank):
    return [max(mark, rank) if bit_at(worlds, world) == 1 else mark for world, mark in enumerate(marks)]


def mind_of(names, told):
    marks = [0] * (1 << len(names))
    for tree, rank in told:
        marks = marked(marks, breaking(names, tree), rank)
    return (names, less_the_least(marks))
