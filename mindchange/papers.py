"""What is seen with some names known, and what follows from premises."""

from mindchange.tables import bit_at, breaking, full, last_world, sides, sides_of_names, table
from mindchange.trees import names_in

# The sides of a name that is known as 0, known as 1, or not known.
KNOWN_SIDES = {0: (0, 1), 1: (1, 0), None: (0, 0)}


def seen(tree, known):
    of_names = {}
    for name in names_in(tree):
        of_names[name] = KNOWN_SIDES[known.get(name)]
    side = sides(tree, of_names, 1)
    if side == (0, 0):
        return None
    return side[0]


def names_used(names, trees):
    used = {}
    for tree in trees:
        for name in names_in(tree):
            used[name] = True
    return tuple([name for name in names if name in used])


def ends_at(names, depth, premises, tree):
    # the ends that a paper may have with as many names known as the depth
    # tells, each with the worlds in which it may stand
    of_names = sides_of_names(names, depth)
    every = full(names)
    ends = [(sides(tree, of_names, every)[0], ("kept",))]
    for place, premise in enumerate(premises):
        ends.append((sides(premise, of_names, every)[1], ("broken", place)))
    return ends


def paper_from(names, ends, depth, world):
    # names that aren't known yet are 0 in the world
    for worlds, end in ends[depth]:
        if bit_at(worlds, world) == 1:
            return end
    with_0 = paper_from(names, ends, depth + 1, world)
    with_1 = paper_from(names, ends, depth + 1, world + (1 << depth))
    return ("split", names[depth], with_0, with_1)


def paper_of(names, premises, tree):
    # Names are split in the order of the tuple. With all used names known
    # nothing is open, so each way down comes to an end.
    used = names_used(names, premises + [tree])
    ends = [ends_at(used, depth, premises, tree) for depth in range(len(used) + 1)]
    return paper_from(used, ends, 0, 0)


def follows(names, premises, tree):
    against = full(names)
    for premise in premises:
        against &= table(names, premise)
    # the sentence comes behind the premises, as their names are looked at first
    against &= breaking(names, tree)
    if against != 0:
        return ("no", last_world(against))
    return ("yes", paper_of(names, premises, tree))
