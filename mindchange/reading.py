"""Reads a written sentence to its tree."""

from mindchange.errors import NoSentence, TooDeep
from mindchange.trees import depth, is_letter, is_name

LONGEST_TEXT = 200
GREATEST_DEPTH = 40

# The signs that stand between two parts: what they write, how much they bind.
KINDS = {"&": "and", "|": "or", ">": "then", "=": "same"}
BINDS = {"&": 4, "|": 3, ">": 2, "=": 1}


def words_of(text):
    words = []
    name = ""
    # the blank behind the text ends a name at the text's end
    for sign in text + " ":
        if is_letter(sign):
            name += sign
            continue
        if name != "":
            words.append(name)
            name = ""
        if sign != " ":
            words.append(sign)
    return words


def leaf(word):
    if word == "1":
        return ("yes",)
    if word == "0":
        return ("no",)
    if not is_name(word):
        raise NoSentence(f"no part of a sentence begins with {word!r}")
    return ("name", word)


def takes_part(earlier, later):
    # of two signs with a part between them, whether the earlier one takes it
    if earlier == "(":
        return False
    if earlier == "~":
        return True
    if earlier == later:
        return later != ">"
    return BINDS[earlier] > BINDS[later]


class Unfinished:
    # A sentence that is read up to some word. It keeps rows of its own in the
    # place of calls within calls, since a text may go far deeper than calls
    # should.

    def __init__(self):
        self.trees = []
        self.signs = []

    def begin_part(self, word):
        # tells whether a part is still due behind the word
        if word == "~" or word == "(":
            self.signs.append(word)
            return True
        self.trees.append(leaf(word))
        return False

    def follow_part(self, word):
        # tells whether a part is due behind the word
        if word == ")":
            self.close_bracket()
            return False
        if word not in BINDS:
            raise NoSentence(f"{word!r} can't follow a part of a sentence")
        while self.signs and takes_part(self.signs[-1], word):
            self.fold()
        self.signs.append(word)
        return True

    def fold(self):
        sign = self.signs.pop()
        right = self.trees.pop()
        if sign == "~":
            self.trees.append(("not", right))
            return
        left = self.trees.pop()
        self.trees.append((KINDS[sign], left, right))

    def fold_to_bracket(self):
        while self.signs and self.signs[-1] != "(":
            self.fold()

    def close_bracket(self):
        self.fold_to_bracket()
        if not self.signs:
            raise NoSentence("a bracket ends that has no beginning")
        self.signs.pop()

    def whole(self):
        self.fold_to_bracket()
        if self.signs:
            raise NoSentence("a bracket begins that has no end")
        return self.trees.pop()


def tree_of_words(words):
    unfinished = Unfinished()
    part_due = True
    for word in words:
        if part_due:
            part_due = unfinished.begin_part(word)
        else:
            part_due = unfinished.follow_part(word)
    if part_due:
        raise NoSentence("the text ends where a part is due")
    return unfinished.whole()


def read(text):
    if len(text) > LONGEST_TEXT:
        raise NoSentence("the text is too long")
    # the depth comes last: a text that writes no sentence isn't too deep
    tree = tree_of_words(words_of(text))
    if depth(tree) > GREATEST_DEPTH:
        raise TooDeep("the sentence is too deep")
    return tree
