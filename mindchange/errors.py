"""The refusals: one class for each, all of them under MindError alone."""


class MindError(ValueError):
    # above all the others, so that an asker may take any refusal at once
    pass


class NoSentence(MindError):
    pass


class TooDeep(MindError):
    pass


class NoName(MindError):
    pass


class Always(MindError):
    pass


class Never(MindError):
    pass


class NoMinds(MindError):
    pass


class Unlike(MindError):
    pass


class NoBack(MindError):
    pass


class NoAgain(MindError):
    pass


class Refused(MindError):
    def __init__(self, place, word):
        self.place = place
        self.word = word
