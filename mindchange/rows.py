"""Runs rows of texts: deeds of a log, minds that are kept, and questions."""

from mindchange.errors import Always, Never, NoAgain, NoBack, NoName, NoSentence, Refused, TooDeep
from mindchange.logs import Log
from mindchange.minds import held, leaning
from mindchange.pouring import common
from mindchange.reading import read
from mindchange.rowforms import form_of, rows_in
from mindchange.tables import bit_at
from mindchange.turning import lost


class Course:
    # what the rows done so far have led to

    def __init__(self, names):
        self.log = Log(names)
        self.kept = {}
        self.answers = []
        self.minds_behind = []


def do_take(course, firm, trees):
    course.log.take(trees[0], firm)


def do_give(course, told, trees):
    course.log.give(trees[0])


def do_lean(course, lean, trees):
    course.log.turn(trees[0], lean)


def do_pour(course, pairs, trees):
    course.log.pour([(course.kept[word], weight) for word, weight in pairs])


def do_back(course, told, trees):
    course.log.back()


def do_again(course, told, trees):
    course.log.again()


def shown_world(names, world):
    return "".join([str(bit_at(world, place)) for place in range(len(names))])


def answer_ask(mind, trees):
    try:
        lean = leaning(mind, trees[0])
    except Always:
        return "always"
    except Never:
        return "never"
    if lean == 0:
        return "open"
    return "held " + str(lean) if lean > 0 else "denied " + str(-lean)


def answer_lost(mind, trees):
    # asked first, since its refusals are due also where the second one is not held
    pairs = lost(mind, trees[0], [trees[1]])
    if not held(mind, trees[1]):
        return "not held"
    if len(pairs) == 0:
        return "stays"
    return "goes " + shown_world(mind[0], pairs[0][1])


def answer_worlds(mind, trees):
    return " ".join([shown_world(mind[0], world) for world in common([mind])])


DEEDS = {"take": do_take, "give": do_give, "lean": do_lean, "pour": do_pour, "back": do_back, "again": do_again}
ANSWERS = {"ask": answer_ask, "lost": answer_lost, "worlds": answer_worlds}


def do_row(course, form):
    kind = form[0]
    trees = [read(text) for text in form[2]]
    if kind == "keep":
        course.kept[form[1]] = course.log.mind()
    elif kind in ANSWERS:
        course.answers.append(ANSWERS[kind](course.log.mind(), trees))
    else:
        DEEDS[kind](course, form[1], trees)
        course.minds_behind.append(course.log.mind())


def lacks_a_mind(course, form):
    return form[0] == "pour" and any([word not in course.kept for word, weight in form[1]])


def word_against(course, form):
    # the word of the refusal, None where the row has been done
    if form is None or form[0] == "names":
        return "row"
    if lacks_a_mind(course, form):
        return "kept"
    try:
        do_row(course, form)
    except NoSentence:
        return "sentence"
    except TooDeep:
        return "deep"
    except NoName:
        return "name"
    except Always:
        return "always"
    except Never:
        return "never"
    except NoBack:
        return "back"
    except NoAgain:
        return "again"
    return None


def names_told(rows):
    if len(rows) == 0:
        raise Refused(0, "row")
    form = form_of(rows[0][1])
    if form is None or form[0] != "names":
        raise Refused(rows[0][0], "row")
    return form[1]


def run(text):
    rows = rows_in(text)
    course = Course(names_told(rows))
    for place, row in rows[1:]:
        word = word_against(course, form_of(row))
        if word is not None:
            raise Refused(place, word)
    return (course.answers, course.minds_behind)
