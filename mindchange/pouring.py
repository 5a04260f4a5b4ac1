"""Several minds at once: poured together with weights, and what they have in common."""

from mindchange.errors import NoMinds, Unlike
from mindchange.minds import less_the_least


def need_alike(minds):
    if len(minds) == 0:
        raise NoMinds("no mind is told")
    for mind in minds:
        if mind[0] != minds[0][0]:
            raise Unlike("the minds have unlike names")


def poured(pairs):
    need_alike([mind for mind, weight in pairs])
    first = pairs[0][0]
    sums = [0] * len(first[1])
    for mind, weight in pairs:
        sums = [total + weight * rank for total, rank in zip(sums, mind[1])]
    return (first[0], less_the_least(sums))


def is_nearest_in_all(minds, world):
    return all([mind[1][world] == 0 for mind in minds])


def common(minds):
    need_alike(minds)
    return [world for world in range(len(minds[0][1])) if is_nearest_in_all(minds, world)]
