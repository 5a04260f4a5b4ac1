"""Told sentences that go where a sentence is shed, and why."""

from mindchange.errors import Always
from mindchange.levels import left_against, places_from, reason_among, tables_of
from mindchange.tables import bit_at, breaking, worlds_in


def reason_with(told, tables, against, place):
    # A reason that has the place and no told sentence of a lesser rank, None
    # where there is none. Without the place, all that stands in such a reason
    # is kept by some world that breaks the sentence. So it is enough to try,
    # for each such world, all that it keeps and the place besides: where the
    # sentence follows from these, no reason among them can spare the place.
    candidates = places_from(told, told[place][1])
    for world in worlds_in(against):
        places = [other for other in candidates if other == place or bit_at(tables[other], world) == 1]
        if left_against(tables, places, against) == 0:
            return reason_among(tables, places, against)
    return None


def shed(names, told, tree):
    tables = tables_of(names, told)
    # the sentence comes behind the told ones, as their names are looked at first
    against = breaking(names, tree)
    if against == 0:
        raise Always("no world breaks the sentence")
    kept = []
    papers = []
    for place in range(len(told)):
        reason = reason_with(told, tables, against, place)
        if reason is None:
            kept.append(place)
        else:
            papers.append((place, reason))
    return (kept, papers)
