"""Worlds, and in which of them a sentence is kept."""

from mindchange.errors import NoName
from mindchange.trees import names_in


def bit_at(number, place):
    return (number >> place) & 1


def worlds_in(worlds):
    return [world for world in range(worlds.bit_length()) if bit_at(worlds, world) == 1]


def last_world(worlds):
    return worlds.bit_length() - 1


def need_names(names, tree):
    for name in names_in(tree):
        if name not in names:
            raise NoName(f"the name {name!r} is not told")


def sides(tree, of_names, every):
    # What is known of a sentence in many worlds at once: a pair of whole
    # numbers, with a bit for each world where it is 1, and for each where it
    # is 0. A world in neither leaves it open. Of_names has such a pair for
    # each name; every has the bits of all worlds.
    kind = tree[0]
    if kind == "name":
        return of_names[tree[1]]
    if kind == "yes":
        return (every, 0)
    if kind == "no":
        return (0, every)
    left = sides(tree[1], of_names, every)
    if kind == "not":
        return turned_about(left)
    return joined(kind, left, sides(tree[2], of_names, every))


def turned_about(side):
    return (side[1], side[0])


def joined(kind, left, right):
    if kind == "and":
        return (left[0] & right[0], left[1] | right[1])
    if kind == "or":
        return (left[0] | right[0], left[1] & right[1])
    if kind == "then":
        return joined("or", turned_about(left), right)
    alike = (left[0] & right[0]) | (left[1] & right[1])
    unlike = (left[0] & right[1]) | (left[1] & right[0])
    return (alike, unlike)


def full(names):
    return (1 << (1 << len(names))) - 1


def worlds_with(names, place):
    return sum([1 << world for world in range(1 << len(names)) if bit_at(world, place) == 1])


def sides_of_names(names, known_ones):
    # so many names are known, the first ones of the tuple; the others are open
    of_names = {}
    for place, name in enumerate(names):
        kept = worlds_with(names, place)
        of_names[name] = (kept, full(names) ^ kept) if place < known_ones else (0, 0)
    return of_names


def table(names, tree):
    need_names(names, tree)
    return sides(tree, sides_of_names(names, len(names)), full(names))[0]


def breaking(names, tree):
    return full(names) ^ table(names, tree)


def value(names, world, tree):
    need_names(names, tree)
    of_names = {}
    for place, name in enumerate(names):
        of_names[name] = (bit_at(world, place), 1 - bit_at(world, place))
    # all is asked of this one world, so a single bit stands for it
    return sides(tree, of_names, 1)[0]
