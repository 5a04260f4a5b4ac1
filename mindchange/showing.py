"""Shows a sentence's tree as a text, with brackets just where they are needed."""

from mindchange.reading import takes_part

SIGNS = {"and": "&", "or": "|", "then": ">", "same": "="}


def in_brackets(text, needed):
    return f"({text})" if needed else text


# A part needs brackets just where, without them, reading would hand the parts
# to the signs otherwise: so reading's own rule is asked.


def shown_ahead(tree, sign):
    needed = tree[0] in SIGNS and not takes_part(SIGNS[tree[0]], sign)
    return in_brackets(shown(tree), needed)


def shown_behind(sign, tree):
    needed = tree[0] in SIGNS and takes_part(sign, SIGNS[tree[0]])
    return in_brackets(shown(tree), needed)


def shown(tree):
    kind = tree[0]
    if kind == "name":
        return tree[1]
    if kind == "yes":
        return "1"
    if kind == "no":
        return "0"
    if kind == "not":
        return "~" + shown_behind("~", tree[1])
    sign = SIGNS[kind]
    return shown_ahead(tree[1], sign) + " " + sign + " " + shown_behind(sign, tree[2])
