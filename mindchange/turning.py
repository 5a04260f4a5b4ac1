"""Minds that turn: a sentence turned to a lean, given up, taken on, and what is lost by it."""

from mindchange.minds import both_leasts, firmness, held, least_rank
from mindchange.tables import bit_at, breaking, last_world, need_names


def turned(mind, tree, lean):
    leasts = both_leasts(mind, tree)
    for_breaking = max(lean, 0) - leasts[0]
    for_keeping = max(-lean, 0) - leasts[1]
    against = breaking(mind[0], tree)
    ranks = [rank + (for_breaking if bit_at(against, world) == 1 else for_keeping)
             for world, rank in enumerate(mind[1])]
    return (mind[0], tuple(ranks))


def given_up(mind, tree):
    # one that is always so is held, and turning refuses it
    if held(mind, tree):
        return turned(mind, tree, 0)
    return mind


def taken_on(mind, tree, firm):
    if firmness(mind, tree) is None:
        return mind
    return turned(mind, tree, firm)


def nearest(ranks, worlds):
    # those of the worlds that have the least rank of them
    least = least_rank(ranks, worlds)
    return sum([1 << world for world, rank in enumerate(ranks) if rank == least and bit_at(worlds, world) == 1])


def lost(mind, tree, others):
    # all names are looked at ahead of whether the sentence is always so
    for each in [tree] + others:
        need_names(mind[0], each)
    behind = given_up(mind, tree)
    against = nearest(mind[1], breaking(mind[0], tree))
    pairs = []
    for place, other in enumerate(others):
        if held(mind, other) and not held(behind, other):
            pairs.append((place, last_world(against & breaking(mind[0], other))))
    return pairs
