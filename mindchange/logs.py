"""A log of deeds that change a mind, which are taken back and done again."""

from mindchange.errors import NoAgain, NoBack
from mindchange.minds import flat
from mindchange.pouring import poured
from mindchange.turning import given_up, taken_on, turned


class Log:
    # It keeps minds in the place of deeds: a deed that is done again stands
    # behind the same mind as the first time, so it leads to the same one.

    def __init__(self, names):
        self.standing = [flat(names)]
        self.taken_back = []

    def stand(self, behind):
        # the mind behind a new deed; a refused deed doesn't come this far
        self.standing.append(behind)
        self.taken_back = []

    def take(self, tree, firm):
        self.stand(taken_on(self.mind(), tree, firm))

    def give(self, tree):
        self.stand(given_up(self.mind(), tree))

    def turn(self, tree, lean):
        self.stand(turned(self.mind(), tree, lean))

    def pour(self, pairs):
        self.stand(poured([(self.mind(), 1)] + pairs))

    def back(self):
        if self.backs() == 0:
            raise NoBack("no deed stands")
        self.taken_back.append(self.standing.pop())

    def again(self):
        if self.agains() == 0:
            raise NoAgain("no deed is to be done again")
        self.standing.append(self.taken_back.pop())

    def mind(self):
        return self.standing[-1]

    def minds(self):
        return list(self.standing)

    def backs(self):
        # the flat mind stands behind no deed
        return len(self.standing) - 1

    def agains(self):
        return len(self.taken_back)
