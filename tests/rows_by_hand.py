"""What run is to tell of a text, in another way than the program's: forms are
told by patterns, minds and answers world by world. Sentences are read by the
program."""

import re

from mindchange.errors import MindError, NoSentence, Refused, TooDeep
from mindchange.reading import read
from mindchange.rows import run
from mindchange.trees import names_in
from tests.samples import breakers, keepers, least, poured_by_hand, turned_by_hand

NAME = "[a-z]{1,8}"
ABOVE_0 = "[1-9][0-9]{0,29}"
FORMS = {
    "names": f"names((?: +{NAME}){{1,8}})", "take": f"take +({ABOVE_0})( .*)?", "give": "give( .*)?",
    "lean": f"lean +(0|-?{ABOVE_0})( .*)?", "keep": f"keep +({NAME})", "pour": f"pour((?: +{ABOVE_0} +{NAME}){{1,10}})",
    "back": "back", "again": "again", "ask": "ask( .*)?", "lost": "lost( [^:]*):(.*)", "worlds": "worlds",
}
SENTENCES = {"take": (1,), "give": (0,), "lean": (1,), "ask": (0,), "lost": (0, 1)}


def form_by_hand(row):
    for kind, form in FORMS.items():
        found = re.fullmatch(" *" + form + " *", row)
        if found:
            parts = [part or "" for part in found.groups()]
            twice = kind == "names" and len(set(parts[0].split())) < len(parts[0].split())
            return None if twice else (kind, parts)
    return None


class Refusal(Exception):
    pass


class ByHand:
    def __init__(self, names):
        self.names = names
        self.minds = [(names, (0,) * 2 ** len(names))]
        self.gone = []
        self.kept = {}
        self.answers = []
        self.told = []

    def trees(self, texts):
        trees = []
        for text in texts:
            try:
                trees.append(read(text.strip(" ")))
            except NoSentence:
                raise Refusal("sentence")
            except TooDeep:
                raise Refusal("deep")
        if any(name not in self.names for tree in trees for name in names_in(tree)):
            raise Refusal("name")
        return trees

    def row(self, kind, parts):
        trees = self.trees([parts[place] for place in SENTENCES.get(kind, ())])
        if kind == "keep":
            self.kept[parts[0]] = self.minds[-1]
        elif kind in ("ask", "lost", "worlds"):
            self.answers.append(getattr(self, kind)(*trees))
        else:
            getattr(self, kind)(parts, trees)
            self.told.append(self.minds[-1])

    def is_held(self, mind, tree):
        return least(mind, breakers(self.names, tree)) != 0

    def always(self, tree):
        return breakers(self.names, tree) == []

    def never(self, tree):
        return keepers(self.names, tree) == []

    def stand(self, mind):
        self.minds.append(mind)
        self.gone = []

    def given_up(self, tree):
        if self.always(tree):
            raise Refusal("always")
        mind = self.minds[-1]
        return turned_by_hand(mind, tree, 0) if self.is_held(mind, tree) else mind

    def take(self, parts, trees):
        if self.never(trees[0]):
            raise Refusal("never")
        mind = self.minds[-1]
        self.stand(mind if self.always(trees[0]) else turned_by_hand(mind, trees[0], int(parts[0])))

    def give(self, parts, trees):
        self.stand(self.given_up(trees[0]))

    def lean(self, parts, trees):
        if self.always(trees[0]) or self.never(trees[0]):
            raise Refusal("always" if self.always(trees[0]) else "never")
        self.stand(turned_by_hand(self.minds[-1], trees[0], int(parts[0])))

    def pour(self, parts, trees):
        words = parts[0].split()
        if any(word not in self.kept for word in words[1::2]):
            raise Refusal("kept")
        pairs = [(self.kept[word], int(weight)) for weight, word in zip(words[::2], words[1::2])]
        self.stand(poured_by_hand([(self.minds[-1], 1)] + pairs))

    def back(self, parts, trees):
        if len(self.minds) == 1:
            raise Refusal("back")
        self.gone.append(self.minds.pop())

    def again(self, parts, trees):
        if not self.gone:
            raise Refusal("again")
        self.minds.append(self.gone.pop())

    def shown(self, worlds):
        return ["".join(str(world // 2 ** place % 2) for place in range(len(self.names))) for world in worlds]

    def ask(self, tree):
        if self.always(tree) or self.never(tree):
            return "always" if self.always(tree) else "never"
        lean = least(self.minds[-1], breakers(self.names, tree)) - least(self.minds[-1], keepers(self.names, tree))
        return "open" if lean == 0 else f"held {lean}" if lean > 0 else f"denied {-lean}"

    def lost(self, tree, other):
        """A list of the answers where there may be several."""
        behind, mind = self.given_up(tree), self.minds[-1]
        if not self.is_held(mind, other):
            return "not held"
        if self.is_held(behind, other):
            return "stays"
        against = breakers(self.names, tree)
        nearest = [world for world in against if mind[1][world] == least(mind, against)]
        return ["goes " + each for each in self.shown(set(nearest) & set(breakers(self.names, other)))]

    def worlds(self):
        return " ".join(self.shown(world for world, rank in enumerate(self.minds[-1][1]) if rank == 0))


def run_by_hand(text):
    """The tuple (answers, minds), or the tuple (place, word) of the refusal."""
    state = None
    for place, row in enumerate(text.split("\n")):
        if row.strip(" ") == "":
            continue
        form = form_by_hand(row)
        if form is None or (form[0] == "names") != (state is None):
            return (place, "row")
        if state is None:
            state = ByHand(tuple(form[1][0].split()))
            continue
        try:
            state.row(*form)
        except Refusal as refusal:
            return (place, str(refusal))
    return (0, "row") if state is None else (state.answers, state.told)


def refused(text):
    """The place and word with which a text is refused, None where it isn't."""
    try:
        run(text)
    except MindError as error:
        assert type(error) is Refused, error
        return (error.place, error.word)
    return None
