"""Reasons among told sentences, and the level to which a sentence follows from them."""

from mindchange.minds import greatest_first
from mindchange.tables import breaking, last_world, table


def tables_of(names, told):
    return [table(names, tree) for tree, rank in told]


def places_from(told, least):
    return [place for place, pair in enumerate(told) if pair[1] >= least]


def left_against(tables, places, against):
    # The worlds that break the sentence, told as against, and keep what is
    # told at the places: the sentence follows from it where none is left.
    left = against
    for place in places:
        left &= tables[place]
    return left


def reason_among(tables, places, against):
    # A place that can't be spared can't be spared later either, when fewer
    # places are left, so each one is tried once.
    reason = list(places)
    for place in places:
        others = [other for other in reason if other != place]
        if left_against(tables, others, against) == 0:
            reason = others
    return reason


def level_paper(names, told, tree):
    tables = tables_of(names, told)
    # the sentence comes behind the told ones, as their names are looked at first
    against = breaking(names, tree)
    if against == 0:
        return (None, [], None)
    left = against
    for rank in greatest_first([pair[1] for pair in told]):
        places = places_from(told, rank)
        left_here = left_against(tables, places, against)
        if left_here == 0:
            # what the greater ranks left keeps all that is told with them
            return (rank, reason_among(tables, places, against), last_world(left))
        left = left_here
    return (0, [], last_world(left))
