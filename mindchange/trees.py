"""Sentences as trees of tuples: their names, their parts, their depth."""

LONGEST_NAME = 8


def is_letter(sign):
    # one sign alone: a longer text may lie between "a" and "z" too
    return "a" <= sign <= "z"


def is_name(text):
    return 1 <= len(text) <= LONGEST_NAME and all([is_letter(sign) for sign in text])


def parts_of(tree):
    # what stands behind "name" is a text, no part
    if tree[0] == "name":
        return []
    return list(tree[1:])


def layer_below(layer):
    below = []
    for tree in layer:
        below.extend(parts_of(tree))
    return below


# Trees are walked layer by layer, not by calls within calls, so that a tree
# of any depth may be asked about.


def depth(tree):
    layers = 0
    layer = [tree]
    while layer:
        layers += 1
        layer = layer_below(layer)
    return layers


def names_in(tree):
    found = {}
    layer = [tree]
    while layer:
        for part in layer:
            if part[0] == "name":
                found[part[1]] = True
        layer = layer_below(layer)
    return sorted(found)
