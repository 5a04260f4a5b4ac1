"""How a sentence is written and read: points 1, 2 and 4."""

import itertools
import unittest

from mindchange.errors import MindError, NoSentence, TooDeep
from mindchange.reading import read
from mindchange.trees import depth

A = ("name", "a")
B = ("name", "b")
C = ("name", "c")
YES = ("yes",)
NO = ("no",)
KINDS = {"&": "and", "|": "or", ">": "then", "=": "same"}
FROM_THE_LEFT = "&|="
MOST_BINDING_FIRST = "&|>="


def refusal(text):
    """The very class with which a text is refused, None where it is read."""
    try:
        read(text)
    except MindError as error:
        return type(error)
    return None


def by_splitting(text):
    """The tree of a text, told by another way than the program's: a text is
    split at the sign that binds least. None where it writes no sentence."""
    words = "".join(sign if sign.isalpha() else f" {sign} " for sign in text).split()
    return split(words)


def split(words):
    inside = 0
    outer = {sign: [] for sign in KINDS}
    for place, word in enumerate(words):
        inside += (word == "(") - (word == ")")
        if inside < 0:
            return None
        if inside == 0 and word in outer:
            outer[word].append(place)
    if inside > 0:
        return None
    for sign in reversed(MOST_BINDING_FIRST):
        if outer[sign]:
            place = outer[sign][-1 if sign in FROM_THE_LEFT else 0]
            left = split(words[:place])
            right = split(words[place + 1:])
            return None if left is None or right is None else (KINDS[sign], left, right)
    return unsigned(words)


def unsigned(words):
    if words[:1] == ["~"]:
        part = split(words[1:])
        return None if part is None else ("not", part)
    if words[:1] == ["("]:
        return split(words[1:-1]) if words[-1] == ")" else None
    if len(words) != 1:
        return None
    if words[0] in ("0", "1"):
        return NO if words[0] == "0" else YES
    return ("name", words[0]) if words[0].isalpha() and len(words[0]) <= 8 else None


class Reads(unittest.TestCase):
    def reads(self, text, tree):
        with self.subTest(text):
            self.assertEqual(read(text), tree)

    def refuses(self, text, error):
        with self.subTest(text):
            self.assertIs(refusal(text), error)


class Signs(Reads):
    def test_names_of_one_to_eight_letters(self):
        for name in ("a", "z", "m", "ab", "abc", "zyxw", "hello", "abcdef", "abcdefg", "abcdefgh", "zzzzzzzz"):
            self.reads(name, ("name", name))

    def test_every_letter(self):
        for letter in "abcdefghijklmnopqrstuvwxyz":
            self.reads(letter, ("name", letter))

    def test_words_of_the_trees_are_plain_names(self):
        for name in ("name", "yes", "no", "not", "and", "or", "then", "same"):
            self.reads(name, ("name", name))

    def test_yes_and_no(self):
        self.reads("1", YES)
        self.reads("0", NO)

    def test_not(self):
        self.reads("~a", ("not", A))
        self.reads("~1", ("not", YES))
        self.reads("~~a", ("not", ("not", A)))
        self.reads("~(a)", ("not", A))

    def test_the_signs_between(self):
        for sign, kind in KINDS.items():
            self.reads(f"a{sign}b", (kind, A, B))
            self.reads(f"b {sign} a", (kind, B, A))
            self.reads(f"1{sign}0", (kind, YES, NO))
            self.reads(f"0{sign}a", (kind, NO, A))

    def test_what_is_told_is_made_of_tuples_and_texts(self):
        def plain(tree):
            return type(tree) is tuple and type(tree[0]) is str and all(
                type(part) is str if tree[0] == "name" else plain(part) for part in tree[1:])
        self.assertTrue(plain(read("~(a & 1) | bc > 0 = ~~d")))


class Binding(Reads):
    def test_each_pair_in_both_orders(self):
        for first, second in itertools.permutations(MOST_BINDING_FIRST, 2):
            one, two = KINDS[first], KINDS[second]
            text = f"a {first} b {second} c"
            if MOST_BINDING_FIRST.index(first) < MOST_BINDING_FIRST.index(second):
                self.reads(text, (two, (one, A, B), C))
            else:
                self.reads(text, (one, A, (two, B, C)))

    def test_written_out(self):
        self.reads("a&b|c", ("or", ("and", A, B), C))
        self.reads("a|b&c", ("or", A, ("and", B, C)))
        self.reads("a|b>c", ("then", ("or", A, B), C))
        self.reads("a>b|c", ("then", A, ("or", B, C)))
        self.reads("a>b=c", ("same", ("then", A, B), C))
        self.reads("a=b>c", ("same", A, ("then", B, C)))
        self.reads("a&b=c", ("same", ("and", A, B), C))
        self.reads("a=b&c", ("same", A, ("and", B, C)))

    def test_not_binds_most(self):
        for sign, kind in KINDS.items():
            self.reads(f"~a{sign}b", (kind, ("not", A), B))
            self.reads(f"a{sign}~b", (kind, A, ("not", B)))
            self.reads(f"~a{sign}~b", (kind, ("not", A), ("not", B)))
            self.reads(f"~~a{sign}b", (kind, ("not", ("not", A)), B))
            self.reads(f"~(a{sign}b)", ("not", (kind, A, B)))

    def test_brackets_against_the_binding(self):
        for first, second in itertools.product(MOST_BINDING_FIRST, repeat=2):
            one, two = KINDS[first], KINDS[second]
            self.reads(f"(a{first}b){second}c", (two, (one, A, B), C))
            self.reads(f"a{first}(b{second}c)", (one, A, (two, B, C)))

    def test_rows_from_the_left(self):
        for sign in FROM_THE_LEFT:
            kind = KINDS[sign]
            self.reads(f"a{sign}b{sign}c", (kind, (kind, A, B), C))
            self.reads(f"a{sign}b{sign}c{sign}a", (kind, (kind, (kind, A, B), C), A))

    def test_rows_from_the_right(self):
        self.reads("a>b>c", ("then", A, ("then", B, C)))
        self.reads("a>b>c>a", ("then", A, ("then", B, ("then", C, A))))

    def test_rows_with_other_signs_between(self):
        self.reads("a>b&c>c", ("then", A, ("then", ("and", B, C), C)))
        self.reads("a=b>c=c", ("same", ("same", A, ("then", B, C)), C))
        self.reads("a|b&c|~a", ("or", ("or", A, ("and", B, C)), ("not", A)))
        self.reads("a&b|c>1=0", ("same", ("then", ("or", ("and", A, B), C), YES), NO))
        self.reads("0=1>c|b&a", ("same", NO, ("then", YES, ("or", C, ("and", B, A)))))

    def test_needless_brackets(self):
        self.reads("(a)", A)
        self.reads("((1))", YES)
        self.reads("(~a)", ("not", A))
        self.reads("~(~(a))", ("not", ("not", A)))
        self.reads("((a)&(b))", ("and", A, B))
        self.reads("(a&b)|c", ("or", ("and", A, B), C))
        self.reads("a>(b>c)", ("then", A, ("then", B, C)))
        self.reads("(((a|b))=((c)))", ("same", ("or", A, B), C))


class Blanks(Reads):
    def test_ahead_between_and_behind(self):
        tree = ("same", ("then", ("not", ("and", A, ("name", "bc"))), YES), NO)
        self.reads("~(a&bc)>1=0", tree)
        self.reads(" ~ ( a & bc ) > 1 = 0 ", tree)
        self.reads("   ~   (   a   &   bc   )   >   1   =   0   ", tree)
        self.reads("~(a& bc)  >1 =0 ", tree)

    def test_round_one_word(self):
        for text, tree in (("a", A), ("1", YES), ("0", NO), ("(a)", A), ("~a", ("not", A))):
            self.reads(" " + text, tree)
            self.reads(text + " ", tree)
            self.reads("    " + text + "     ", tree)

    def test_between_signs_that_follow_one_another(self):
        self.reads("~ ~ a", ("not", ("not", A)))
        self.reads("( ( a ) )", A)
        self.reads("a & ~ b", ("and", A, ("not", B)))

    def test_they_part_names(self):
        self.refuses("a b", NoSentence)
        self.refuses("ab cd", NoSentence)
        self.refuses("abcdefgh i", NoSentence)
        self.refuses("abcd efgh", NoSentence)
        self.refuses("a & b c", NoSentence)


class TheLength(Reads):
    def test_two_hundred_signs(self):
        text = "abcdefgh&" * 22 + "ab"
        self.assertEqual(len(text), 200)
        self.assertEqual(read(text), by_splitting(text))
        self.refuses(text + "c", NoSentence)
        self.refuses("c" + text, NoSentence)

    def test_blanks_count_as_signs(self):
        for text in ("a" + " " * 199, " " * 199 + "a", " " * 100 + "a" + " " * 99):
            self.assertEqual(len(text), 200)
            self.reads(text, A)
            self.refuses(text + " ", NoSentence)
            self.refuses(" " + text, NoSentence)
        self.reads("a" + " " * 197 + "&b", ("and", A, B))
        self.refuses("a" + " " * 198 + "&b", NoSentence)

    def test_brackets_count_as_signs(self):
        text = "(" * 60 + "a" + ")" * 60
        self.reads(text + " " * 79, A)
        self.refuses(text + " " * 80, NoSentence)

    def test_far_too_long(self):
        self.refuses("a" + " " * 5000, NoSentence)
        self.refuses("~" * 5000 + "a", NoSentence)


class TheDepth(Reads):
    def deepest(self, text):
        with self.subTest(text):
            self.assertEqual(depth(read(text)), 40)

    def test_by_not(self):
        self.deepest("~" * 39 + "a")
        self.deepest("~" * 39 + "1")
        self.refuses("~" * 40 + "a", TooDeep)
        self.refuses("~" * 40 + "0", TooDeep)

    def test_by_rows_of_each_sign(self):
        for sign in KINDS:
            self.deepest("a" + (sign + "b") * 39)
            self.refuses("a" + (sign + "b") * 40, TooDeep)

    def test_by_brackets_on_the_right(self):
        for sign in KINDS:
            self.deepest(f"a{sign}(" * 39 + "b" + ")" * 39)
            self.refuses(f"a{sign}(" * 40 + "b" + ")" * 40, TooDeep)

    def test_by_brackets_on_the_left(self):
        for sign in KINDS:
            self.deepest("(" * 39 + "a" + f"{sign}b)" * 39)
            self.refuses("(" * 40 + "a" + f"{sign}b)" * 40, TooDeep)

    def test_by_not_and_brackets(self):
        self.deepest("~(" * 39 + "a" + ")" * 39)
        self.refuses("~(" * 40 + "a" + ")" * 40, TooDeep)

    def test_by_not_round_or_within_a_sign(self):
        for sign in KINDS:
            self.deepest("~" * 38 + f"(a{sign}b)")
            self.refuses("~" * 39 + f"(a{sign}b)", TooDeep)
            self.deepest(f"a{sign}" + "~" * 38 + "b")
            self.refuses(f"a{sign}" + "~" * 39 + "b", TooDeep)
            self.deepest("~" * 38 + f"a{sign}b")
            self.refuses("~" * 39 + f"a{sign}b", TooDeep)

    def test_brackets_count_for_no_depth(self):
        self.reads("(" * 60 + "a" + ")" * 60, A)
        self.reads("(" * 60 + "a&b" + ")" * 60, ("and", A, B))
        self.reads("(" * 60 + "a" + ")" * 60 + ">b", ("then", A, B))
        self.deepest("~" * 39 + "(" * 60 + "a" + ")" * 60)
        self.deepest("(" * 60 + "~" * 39 + "a" + ")" * 60)
        self.refuses("~" * 40 + "(" * 59 + "a" + ")" * 59, TooDeep)

    def test_very_deep(self):
        self.refuses("~" * 199 + "a", TooDeep)
        self.refuses("~" * 199 + "1", TooDeep)
        for sign in KINDS:
            self.refuses(f"a{sign}" * 99 + "ab", TooDeep)
        self.refuses("~(" * 60 + "a" + ")" * 60, TooDeep)
        self.refuses("~" * 139 + "(" * 30 + "a" + ")" * 30, TooDeep)

    def test_too_deep_and_no_sentence_either(self):
        for text in ("~" * 200, "~" * 199 + "&", "~" * 100 + "a)", "(" + "~" * 100 + "a", "~" * 50 + "a b",
                     "~" * 50 + "A", "~" * 50 + "abcdefghi", "~" * 50 + "()", "a&" * 100, "&a" * 100,
                     "a>" * 50 + "?", "a=" * 50 + "=a", "~" * 50 + "a~", "~" * 50 + "10", "a|" * 60 + "a a"):
            self.assertLessEqual(len(text), 200)
            self.refuses(text, NoSentence)

    def test_too_deep_and_too_long(self):
        self.refuses("~" * 200 + "a", NoSentence)
        self.refuses("a&" * 100 + "a", NoSentence)
        self.refuses("~" * 40 + "a" + " " * 160, NoSentence)
        self.refuses("~" * 40 + "a" + " " * 159, TooDeep)


class WrongTexts(Reads):
    def all_refused(self, *texts):
        for text in texts:
            self.refuses(text, NoSentence)

    def test_nothing(self):
        self.all_refused("", " ", "  ", " " * 200, " " * 201)

    def test_no_sign_between(self):
        self.all_refused("a b", "a 1", "1 a", "1a", "a1", "a0b", "1 0", "1 1", "(a)(b)", "(a) b", "a (b)", "a(b)",
                         "(a)b", "a ~b", "a~b", "(a)~b", "1(a)", "(a)0", "a & b c", "~a b", "a~", "a ~")

    def test_a_sign_without_a_part(self):
        for sign in KINDS:
            self.all_refused(sign, sign + "a", "a" + sign, f"a{sign}{sign}b", f"({sign}a)", f"(a{sign})",
                             f"a{sign}()", f"(){sign}a", f"~{sign}a", f"a{sign}~", f"a {sign} {sign} b")
        for first, second in itertools.product(KINDS, repeat=2):
            self.all_refused(f"a{first}{second}b", first + second)
        self.all_refused("~", "~~", "(~)", "~()", "~(~)")

    def test_names_too_long(self):
        self.all_refused("abcdefghi", "aaaaaaaaaa", "a" * 16, "a" * 200, "~abcdefghi", "a & abcdefghi",
                         "(abcdefghi)", "abcdefghi & a")

    def test_a_blank_within_a_name(self):
        self.all_refused("ab c", "a bc", "abcd efgh", "a  b", "~ab c", "(ab c)", "a & b c")

    def test_great_letters(self):
        self.all_refused("A", "Z", "aB", "Ab", "aBc", "~A", "a & B", "(A)", "NOT", "Yes")

    def test_figures(self):
        self.all_refused("2", "3", "9", "10", "01", "00", "11", "12", "100", "1 0", "a2", "2a", "~2", "a & 2",
                         "-1", "1.0", "+1")

    def test_other_signs(self):
        known = set("abcdefghijklmnopqrstuvwxyz01~&|>=() ")
        for other in map(chr, range(32, 127)):
            if other not in known:
                self.all_refused(other, "a" + other, other + "a", f"a{other}b", f"a {other} b", f"({other})",
                                 f"a & {other}b", f"a & b{other}")

    def test_other_signs_that_often_write_the_same(self):
        self.all_refused("!a", "-a", "a -> b", "a => b", "a <-> b", "a == b", "a && b", "a || b", "a ^ b", "a + b",
                         "a * b", "a, b", "[a]", "{a}", "a_b", "a'", "\"a\"", "a.", "a;", "a >= b", "a <= b", "a < b")

    def test_line_ends_and_tabs(self):
        self.all_refused("a\n", "\na", "a &\nb", "a\t", "a\t& b", "\n")

    def test_brackets_without_the_other(self):
        self.all_refused("(", ")", "(a", "a)", "((a)", "(a))", ")a(", ")(", "(a&b", "a&b)", "a&(b", "(a)&b)",
                         "~(a", "~a)", "a)&(b", "(a&(b)", "(" * 60 + "a" + ")" * 59, "(" * 59 + "a" + ")" * 60,
                         "(" * 200, ")" * 200)

    def test_empty_brackets(self):
        self.all_refused("()", "( )", "(())", "()a", "a()", "a&()", "()&a", "~()", "(a)()", "()(a)", "((a)())")


class AgainstSplitting(unittest.TestCase):
    def check(self, text):
        tree = by_splitting(text)
        if tree is None:
            self.assertIs(refusal(text), NoSentence, text)
        else:
            self.assertEqual(read(text), tree, text)

    def test_all_short_texts(self):
        for length in range(6):
            for signs in itertools.product("ab 0~&>()", repeat=length):
                self.check("".join(signs))

    def test_all_rows_of_four_signs(self):
        for signs in itertools.product(("&", "|", ">", "=", "&~", ">~"), repeat=4):
            self.check("a{}b{}c{}d{}e".format(*signs))
            self.check("a{}(b{}c{}d){}e".format(*signs))
            self.check("(a{}b){}~(c{}d{}e)".format(*signs))

    def test_names_of_all_lengths(self):
        for length in range(1, 12):
            self.check("q" * length)
            self.check("~" + "q" * length + "&a")


class NothingIsKept(unittest.TestCase):
    def test_a_text_is_read_alike_again_and_behind_refusals(self):
        text = "~a & (b | c) > 1"
        first = read(text)
        for wrong in ("((a", "a &", "~" * 60 + "a", "a" * 300):
            self.assertIsNotNone(refusal(wrong))
            self.assertEqual(read(text), first)
        self.assertEqual(first, ("then", ("and", ("not", A), ("or", B, C)), YES))


if __name__ == "__main__":
    unittest.main()
