"""Sentences for tables, and for minds."""

from mindchange.minds import greatest_first


def chosen(name, with_0, with_1):
    # A sentence as with_1 where the name is 1, and as with_0 where it is 0.
    # The shorter forms keep the whole well within 2000 parts: of eight names
    # it has at most 891.
    if with_0 == with_1:
        return with_0
    if with_0 == ("no",):
        return name if with_1 == ("yes",) else ("and", name, with_1)
    if with_1 == ("no",):
        return ("not", name) if with_0 == ("yes",) else ("and", ("not", name), with_0)
    if with_0 == ("yes",):
        return ("then", name, with_1)
    if with_1 == ("yes",):
        return ("or", name, with_0)
    return ("and", ("then", name, with_1), ("or", name, with_0))


def tree_of(names, table):
    if len(names) == 0:
        return ("yes",) if table == 1 else ("no",)
    # the last name is 0 in the first half of the worlds, and 1 in the second
    half = 1 << (len(names) - 1)
    with_0 = tree_of(names[:-1], table & ((1 << half) - 1))
    with_1 = tree_of(names[:-1], table >> half)
    return chosen(("name", names[-1]), with_0, with_1)


def worlds_below(ranks, rank):
    return sum([1 << world for world, other in enumerate(ranks) if other < rank])


def sentences_of(mind):
    ranks = [rank for rank in mind[1] if rank > 0]
    return [(tree_of(mind[0], worlds_below(mind[1], rank)), rank) for rank in greatest_first(ranks)]
