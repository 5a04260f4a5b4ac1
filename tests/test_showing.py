"""How a sentence is shown: point 5."""

import re
import unittest

from mindchange.errors import MindError
from mindchange.reading import read
from mindchange.showing import shown
from tests.samples import A, B, C, EIGHT, NO, YES, big_tree, nots, random_trees, row, row_from_right, small_trees

D = ("name", "d")
AND = ("and", A, B)
OR = ("or", A, B)
THEN = ("then", A, B)
SAME = ("same", A, B)
# each sentence of two parts as the left part and as the right part of each kind
PARTS = (
    ("and", AND, "a & b & c", "c & (a & b)"),
    ("and", OR, "(a | b) & c", "c & (a | b)"),
    ("and", THEN, "(a > b) & c", "c & (a > b)"),
    ("and", SAME, "(a = b) & c", "c & (a = b)"),
    ("or", AND, "a & b | c", "c | a & b"),
    ("or", OR, "a | b | c", "c | (a | b)"),
    ("or", THEN, "(a > b) | c", "c | (a > b)"),
    ("or", SAME, "(a = b) | c", "c | (a = b)"),
    ("then", AND, "a & b > c", "c > a & b"),
    ("then", OR, "a | b > c", "c > a | b"),
    ("then", THEN, "(a > b) > c", "c > a > b"),
    ("then", SAME, "(a = b) > c", "c > (a = b)"),
    ("same", AND, "a & b = c", "c = a & b"),
    ("same", OR, "a | b = c", "c = a | b"),
    ("same", THEN, "a > b = c", "c = a > b"),
    ("same", SAME, "a = b = c", "c = (a = b)"),
)


def without_brackets(text):
    """The text without each of its pairs of brackets, one after another."""
    begun = []
    for place, sign in enumerate(text):
        if sign == "(":
            begun.append(place)
        elif sign == ")":
            first = begun.pop()
            yield text[:first] + text[first + 1:place] + text[place + 1:]


def read_or_none(text):
    try:
        return read(text)
    except MindError:
        return None


class Shows(unittest.TestCase):
    def shows(self, tree, text):
        with self.subTest(text):
            self.assertEqual(shown(tree), text)


class EachKind(Shows):
    def test_the_first_three_kinds(self):
        self.shows(A, "a")
        self.shows(("name", "abcdefgh"), "abcdefgh")
        self.shows(YES, "1")
        self.shows(NO, "0")

    def test_names_that_read_like_kinds(self):
        for word in ("name", "yes", "no", "not", "and", "or", "then", "same"):
            self.shows(("name", word), word)
            self.shows(("not", ("name", word)), "~" + word)
            self.shows(("and", ("name", word), ("name", word)), f"{word} & {word}")
            self.shows(("then", ("name", word), ("name", word)), f"{word} > {word}")

    def test_two_parts(self):
        self.shows(AND, "a & b")
        self.shows(OR, "a | b")
        self.shows(THEN, "a > b")
        self.shows(SAME, "a = b")
        self.shows(("and", YES, NO), "1 & 0")
        self.shows(("or", NO, YES), "0 | 1")
        self.shows(("then", A, A), "a > a")
        self.shows(("same", B, A), "b = a")

    def test_it_is_a_text(self):
        for tree in (A, YES, NO, ("not", A), AND):
            self.assertIs(type(shown(tree)), str)


class Brackets(Shows):
    def test_parts_of_not(self):
        self.shows(("not", A), "~a")
        self.shows(("not", YES), "~1")
        self.shows(("not", NO), "~0")
        self.shows(("not", ("not", A)), "~~a")
        self.shows(("not", AND), "~(a & b)")
        self.shows(("not", OR), "~(a | b)")
        self.shows(("not", THEN), "~(a > b)")
        self.shows(("not", SAME), "~(a = b)")
        self.shows(("not", ("not", OR)), "~~(a | b)")

    def test_left_and_right_parts(self):
        for kind, part, left, right in PARTS:
            self.shows((kind, part, C), left)
            self.shows((kind, C, part), right)

    def test_both_parts_at_once(self):
        for kind, part, left, right in PARTS:
            for other_kind, other, _, other_right in PARTS:
                if kind == other_kind:
                    self.shows((kind, part, other), left[:-1] + other_right[4:])

    def test_not_and_leaves_as_parts(self):
        for kind, sign in (("and", "&"), ("or", "|"), ("then", ">"), ("same", "=")):
            for part, text in ((("not", A), "~a"), (YES, "1"), (NO, "0"), (A, "a"), (("not", AND), "~(a & b)")):
                self.shows((kind, part, C), f"{text} {sign} c")
                self.shows((kind, C, part), f"c {sign} {text}")
                self.shows(("not", (kind, part, C)), f"~({text} {sign} c)")

    def test_rows_of_one_sign(self):
        leaves = [A, B, C, D]
        self.shows(row("and", leaves), "a & b & c & d")
        self.shows(row("or", leaves), "a | b | c | d")
        self.shows(row("same", leaves), "a = b = c = d")
        self.shows(row("then", leaves), "((a > b) > c) > d")
        self.shows(row_from_right("and", leaves), "a & (b & (c & d))")
        self.shows(row_from_right("or", leaves), "a | (b | (c | d))")
        self.shows(row_from_right("same", leaves), "a = (b = (c = d))")
        self.shows(row_from_right("then", leaves), "a > b > c > d")

    def test_parts_of_parts(self):
        self.shows(("and", ("or", ("then", SAME, C), D), A), "(((a = b) > c) | d) & a")
        self.shows(("same", ("then", ("or", AND, C), D), A), "a & b | c > d = a")
        self.shows(("then", ("not", THEN), ("not", SAME)), "~(a > b) > ~(a = b)")
        self.shows(("or", C, ("not", ("or", A, ("and", OR, C)))), "c | ~(a | (a | b) & c)")
        self.shows(("then", A, ("same", B, ("then", C, D))), "a > (b = c > d)")


class DeepOnes(Shows):
    def test_many_nots(self):
        for count in (38, 39, 45, 150):
            self.shows(nots(count, A), "~" * count + "a")
            self.shows(nots(count, AND), "~" * count + "(a & b)")

    def test_long_rows(self):
        for count in (39, 40, 60):
            leaves = [A] * count
            self.shows(row("and", leaves), " & ".join("a" * count))
            self.shows(row_from_right("then", leaves), " > ".join("a" * count))
            self.shows(row_from_right("or", leaves), "a | (" * (count - 2) + "a | a" + ")" * (count - 2))
            self.shows(row("then", leaves), "(" * (count - 2) + "a > a" + ") > a" * (count - 2))

    def test_many_parts(self):
        text = shown(big_tree(1, EIGHT))
        self.assertEqual(len(re.findall("[a-z]", text)), 990)
        self.assertEqual(len(re.findall(" [&|>=] ", text)), 989)


class ReadAgain(unittest.TestCase):
    def is_read_again(self, tree):
        text = shown(tree)
        if len(text) > 200:
            return False
        self.assertEqual(read(text), tree, text)
        self.assertEqual(shown(read(text)), text)
        return True

    def test_all_small_sentences(self):
        for tree in small_trees((A, YES), 3):
            self.is_read_again(tree)

    def test_many_sentences(self):
        count = 0
        for depth in range(2, 12):
            for tree in random_trees(depth, ("a", "bb", "abcdefgh"), depth, 150):
                count += self.is_read_again(tree)
        self.assertGreater(count, 600)

    def test_up_to_two_hundred_signs(self):
        longest = row("or", [row("and", [("name", "aaa")] * 17), row("and", [("name", "bbb")] * 16), ("name", "cc")])
        self.assertEqual(len(shown(longest)), 200)
        self.assertTrue(self.is_read_again(longest))
        bracketed = row("and", [row_from_right("or", [A] * 33), ("name", "bbb")])
        self.assertEqual(len(shown(bracketed)), 33 * 4 - 3 + 2 * 31 + 2 + 6)
        self.assertTrue(self.is_read_again(bracketed))

    def test_no_bracket_may_be_left_out(self):
        trees = small_trees((A, YES), 2) + random_trees(5, ("a", "b"), 5, 400)
        count = 0
        for tree in trees:
            for text in without_brackets(shown(tree)):
                count += 1
                self.assertNotEqual(read_or_none(text), tree, text)
        self.assertGreater(count, 300)

    def test_blanks_stand_round_signs_alone(self):
        for tree in random_trees(6, ("a", "b"), 6, 300):
            bare = re.sub(" ([&|>=]) ", r"\1", shown(tree))
            self.assertNotIn(" ", bare)
            self.assertEqual(shown(tree), re.sub("([&|>=])", r" \1 ", bare))

    def test_what_is_read_is_shown_in_its_plain_form(self):
        for text, plain in (("((a))", "a"), ("a&b", "a & b"), (" ~ ( a ) ", "~a"), ("(a & b) & c", "a & b & c"),
                            ("a > (b > c)", "a > b > c"), ("(a|b)&c", "(a | b) & c"), ("((a & b)) | (c)", "a & b | c")):
            with self.subTest(text):
                self.assertEqual(shown(read(text)), plain)


if __name__ == "__main__":
    unittest.main()
