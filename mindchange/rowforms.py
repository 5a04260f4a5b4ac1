"""The forms of rows: what stands in a row, or None where it has no form."""

from mindchange.trees import is_name

MOST_FIGURES = 30
MOST_NAMES = 8
MOST_PAIRS = 10


def rows_in(text):
    # those that aren't passed over, each with its number among all rows
    rows = [(place, row.strip(" ")) for place, row in enumerate(text.split("\n"))]
    return [pair for pair in rows if pair[1] != ""]


def words_in(text):
    return [word for word in text.split(" ") if word != ""]


def first_word(text):
    return text.partition(" ")[0]


def behind_first_word(text):
    # not put together from words: blanks within a sentence count as signs
    return text.partition(" ")[2].lstrip(" ")


def is_figure(sign):
    return "0" <= sign <= "9"


def number_in(word):
    if not 1 <= len(word) <= MOST_FIGURES or not all([is_figure(sign) for sign in word]):
        return None
    if word[0] == "0" and word != "0":
        return None
    return int(word)


def number_above_0(word):
    number = number_in(word)
    return None if number == 0 else number


def lean_in(word):
    if not word.startswith("-"):
        return number_in(word)
    number = number_above_0(word[1:])
    return None if number is None else -number


# Each of these takes what stands behind a row's first word, and tells a pair:
# what the row has besides sentences, and the texts of its sentences in order.


def names_form(text):
    names = words_in(text)
    if not 1 <= len(names) <= MOST_NAMES:
        return None
    if not all([is_name(name) and names.count(name) == 1 for name in names]):
        return None
    return (tuple(names), [])


def numbered_form(number, text):
    return None if number is None else (number, [behind_first_word(text)])


def take_form(text):
    return numbered_form(number_above_0(first_word(text)), text)


def lean_form(text):
    return numbered_form(lean_in(first_word(text)), text)


def sentence_form(text):
    return (None, [text])


def lost_form(text):
    if ":" not in text:
        return None
    parts = text.partition(":")
    return (None, [parts[0].strip(" "), parts[2].strip(" ")])


def keep_form(text):
    return (text, []) if is_name(text) else None


def pour_form(text):
    words = words_in(text)
    if len(words) % 2 == 1 or not 1 <= len(words) // 2 <= MOST_PAIRS:
        return None
    weights = [number_above_0(word) for word in words[0::2]]
    keeping_words = words[1::2]
    if None in weights or not all([is_name(word) for word in keeping_words]):
        return None
    return (list(zip(keeping_words, weights)), [])


def bare_form(text):
    return (None, []) if text == "" else None


FORMS = {
    "names": names_form, "take": take_form, "give": sentence_form, "lean": lean_form, "keep": keep_form,
    "pour": pour_form, "back": bare_form, "again": bare_form, "ask": sentence_form, "lost": lost_form,
    "worlds": bare_form,
}


def form_of(row):
    # the first word goes ahead of the pair; the row begins and ends without blanks
    kind = first_word(row)
    if kind not in FORMS:
        return None
    pair = FORMS[kind](behind_first_word(row))
    return None if pair is None else (kind, pair[0], pair[1])
