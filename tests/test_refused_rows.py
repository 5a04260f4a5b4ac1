"""Rows that are refused: points 1, 2 and 22."""

import itertools
import unittest

from mindchange.errors import MindError, Refused
from mindchange.rows import run
from tests.rows_by_hand import refused, run_by_hand
from tests.samples import EIGHT

# the row behind these has the number 6
AHEAD = ["", "names a b", "  ", "take 3 a", "keep x", "keep take"]
PLACE = len(AHEAD)
DEEP = "~" * 40 + "a"
LONG = "a" + "|a" * 100
# what writes no sentence
BAD = ("", "a b", "a &", "& a", "(a", "a)", "()", "A", "a1", "abcdefghi", "a # b", "a : b", "2", "~", "+", LONG,
       "a" + " " * 199 + "|b")
MOST = "9" * 30
NO_NUMBERS = ("00", "01", "007", "+1", "+0", "-0", "-00", "-01", "--1", "-", "+", "x", "a", "1x", "x1", "1.0", "1,0",
              "1_0", "0x1", "1e3", "(1)", "1-", "1-1", "9" * 31, "1" + "0" * 30, "0" * 30, "-" + "9" * 31, "1:")
NO_NAMES = ("A", "aB", "abcdefghi", "a1", "1", "0", "a-b", "a_b", "a,", "~a", "(a)", ":", "a:", "-")
SENTENCE_ROWS = ("take 1 {}", "give {}", "lean 1 {}", "lean -1 {}", "lean 0 {}", "ask {}", "lost {} : a", "lost a : {}")


class Refusals(unittest.TestCase):
    def is_refused(self, text, place, word):
        with self.subTest(text=text[-120:]):
            self.assertEqual(refused(text), (place, word))
            self.assertEqual(run_by_hand(text), (place, word))

    def row_is_refused(self, row, word, behind=()):
        """The row stands behind those above, whatever follows it."""
        for rest in ([], ["ask a"], ["no form"], ["", "give"], *behind):
            self.is_refused("\n".join(AHEAD + [row] + rest), PLACE, word)

    def row_is_done(self, row):
        self.assertIsNone(refused("\n".join(AHEAD + [row])), row)


class Forms(Refusals):
    def test_another_first_word(self):
        for row in ("x", "taken 1 a", "tak 1 a", "Take 1 a", "TAKE 1 a", "asks a", "a", "1", ":", "turn 1 a", "world",
                    "minds", "# a", "take1 a", "ask(a)", "give~a", "lost:a", "lost:", "lost(a):a", "ask:", "worlds:",
                    "names,a", "-", "again,", "backs", "~"):
            self.row_is_refused(row, "row")
            self.row_is_refused("   " + row + "  ", "row")

    def test_no_names_row_first(self):
        for row in ("take 1 a", "give a", "lean 1 a", "keep x", "pour 1 x", "back", "again", "ask a", "lost a : a",
                    "worlds", "x", "Names a", "name a", "namesa", "ask", "take 1 a b", "lost"):
            for ahead in (0, 1, 5):
                for rest in ([], ["names a b"], ["names a b", "ask a"]):
                    self.is_refused("\n".join([" "] * ahead + [row] + rest), ahead, "row")

    def test_names_rows_of_no_form(self):
        wrong = ["names", "names " + " ".join(EIGHT) + " x", "names " + " ".join(EIGHT) + " a b c", "names a a",
                 "names a b a", "names a b c d e f g a", "names b a c a", "names " + "a " * 9]
        wrong += [row.format(name) for name in NO_NAMES for row in ("names {}", "names a {}", "names {} b")]
        for row in wrong:
            for ahead in (0, 2):
                self.is_refused("\n".join([""] * ahead + [row]), ahead, "row")
                self.is_refused("\n".join([""] * ahead + ["  " + row + " ", "names a"]), ahead, "row")

    def test_a_second_names_row(self):
        for row in ("names a b", "names a", "names c", "names", "names b a", "names A"):
            self.row_is_refused(row, "row")
        self.is_refused("names a\nnames a", 1, "row")

    def test_no_rows(self):
        for text in ("", "\n", "\n\n\n", " ", "   \n", "\n  ", " \n \n ", "\n" * 99):
            self.is_refused(text, 0, "row")

    def test_no_number(self):
        for number in NO_NUMBERS:
            for row in (f"take {number} a", f"lean {number} a", f"pour {number} x", f"pour 1 x {number} x",
                        f"take {number}", f"lean {number} A", f"pour {number} y", f"take {number} " + DEEP):
                self.row_is_refused(row, "row")

    def test_0_and_below(self):
        for number in ("0", "-1", "-5", "-" + MOST):
            for row in (f"take {number} a", f"pour {number} x", f"pour 1 x {number} x", f"take {number}",
                        f"take {number} 0", f"pour {number} y"):
                self.row_is_refused(row, "row")
            self.row_is_done(f"lean {number} a")

    def test_numbers_at_their_bounds(self):
        for row in (f"take {MOST} a", "take 1 a", f"lean {MOST} a", f"lean -{MOST} a", "lean -1 a", "lean 0 a",
                    f"pour {MOST} x", "pour 1 x"):
            self.row_is_done(row)

    def test_too_few_words(self):
        for row in ("take", "take a", "take a & b", "lean", "lean a", "keep", "pour", "pour 1", "pour x", "pour 1 x 2",
                    "pour 1 x x", "pour x 1", "pour 1 2", "pour 1 1 x x"):
            self.row_is_refused(row, "row")

    def test_too_many_words(self):
        for row in ("back a", "back 1", "back back", "again a", "again again", "worlds a", "worlds worlds", "keep x y",
                    "keep x 1", "keep x :", "pour 1 x 2 x 3", "pour 1 x y", "back :", "again 0"):
            self.row_is_refused(row, "row")

    def test_pairs(self):
        for count in range(1, 11):
            self.row_is_done("pour" + " 2 x" * count)
        for count in (11, 12, 20, 40):
            self.row_is_refused("pour" + " 2 x" * count, "row")
        self.row_is_refused("pour" + " 2 y" * 11, "row")

    def test_no_colon(self):
        for row in ("lost", "lost a", "lost a b", "lost a a", "lost a & b", "lost A", "lost " + DEEP, "lost a ; b",
                    "lost c", "lost 1"):
            self.row_is_refused(row, "row")

    def test_keeping_words(self):
        for word in NO_NAMES:
            self.row_is_refused(f"keep {word}", "row")
            self.row_is_refused(f"pour 1 {word}", "row")
            self.row_is_refused(f"pour 1 x 2 {word}", "row")
            self.row_is_refused(f"pour 1 {word} 2 x", "row")
        self.row_is_done("keep abcdefgh")
        self.row_is_done("keep names")
        self.row_is_done("pour 2 take")


class Sentences(Refusals):
    def test_sentence(self):
        for row, text in itertools.product(SENTENCE_ROWS, BAD):
            if text != "a : b" or not row.startswith("lost {}"):
                self.row_is_refused(row.format(text), "sentence")

    def test_the_empty_text(self):
        for row in ("take 1", "take 1 ", f"take {MOST}", "give", "give  ", "lean 1", "lean -1", "lean 0  ", "ask", " ask ",
                    "lost :", "lost  : ", "lost : a", "lost a :", "lost a:", "lost :a"):
            self.row_is_refused(row, "sentence")

    def test_the_first_colon_parts(self):
        for row in ("lost a : b : a", "lost a :: b", "lost : :", "lost a : b :", "lost (a : b)"):
            self.row_is_refused(row, "sentence")
        self.row_is_refused("lost " + DEEP + " : a : b", "deep")

    def test_deep(self):
        for row in SENTENCE_ROWS:
            for text in (DEEP, "~" * 41 + "b", "~" * 40 + "c", "~" * 150 + "0", "a>" * 40 + "a", "a&" * 40 + "a"):
                self.row_is_refused(row.format(text), "deep")
            self.row_is_done(row.format("~" * 38 + "a"))
        # one that writes no sentence is not deep
        for row in SENTENCE_ROWS:
            self.row_is_refused(row.format("~" * 60), "sentence")
            self.row_is_refused(row.format("~" * 60 + "(a"), "sentence")

    def test_the_first_sentence_goes_first(self):
        for bad in BAD:
            if bad != "a : b":
                self.row_is_refused(f"lost {bad} : {DEEP}", "sentence")
                self.row_is_refused(f"lost {bad} : c", "sentence")
                self.row_is_refused(f"lost {bad} : {bad}", "sentence")
            self.row_is_refused(f"lost {DEEP} : {bad}", "deep")
            self.row_is_refused(f"lost c : {bad}", "sentence")
            self.row_is_refused(f"lost 1 : {bad}", "sentence")
        self.row_is_refused(f"lost {DEEP} : c", "deep")
        self.row_is_refused(f"lost {DEEP} : {DEEP}", "deep")
        self.row_is_refused(f"lost c : {DEEP}", "deep")
        self.row_is_refused(f"lost 1 : {DEEP}", "deep")

    def test_name(self):
        for row in SENTENCE_ROWS:
            for text in ("c", "~c", "c | 1", "c & 0", "0 & c", "c | ~c", "c = c", "a & (b | c)", "x", "take",
                         "~" * 39 + "c"):
                self.row_is_refused(row.format(text), "name")
        # ahead of always and never
        for row in ("lost 1 : c", "lost a | ~a : c", "lost c | 1 : a", "lost c : c", "lost a : c & 0"):
            self.row_is_refused(row, "name")


class Deeds(Refusals):
    def test_kept(self):
        for row in ("pour 1 y", "pour 1 x 2 y", "pour 1 y 2 x", "pour 1 x 1 x 1 x 1 z", f"pour {MOST} keep", "pour 2 a",
                    "pour" + " 1 x" * 9 + " 1 y", "pour 1 names"):
            self.row_is_refused(row, "kept", behind=(["keep y"],))
        # a word that is kept behind the row comes too late
        self.is_refused("names a\npour 1 x\nkeep x", 1, "kept")

    def test_always(self):
        for text in ("1", "a | ~a", "a > a", "b = b", "~0"):
            for row in ("give {}", "lean 1 {}", "lean 0 {}", "lean -1 {}", "lost {} : a", "lost {} : 1", "lost {} : {}"):
                self.row_is_refused(row.replace("{}", text), "always")
            # also where the second one is not held, or never so
            self.row_is_refused(f"lost {text} : b", "always")
            self.row_is_refused(f"lost {text} : ~a", "always")
            self.row_is_refused(f"lost {text} : 0", "always")
            for row in ("take 1 {}", "ask {}", "lost a : {}"):
                self.row_is_done(row.format(text))

    def test_never(self):
        for text in ("0", "a & ~a", "a = ~a", "~1"):
            for row in ("take 1 {}", f"take {MOST} {{}}", "lean 1 {}", "lean 0 {}", "lean -1 {}"):
                self.row_is_refused(row.format(text), "never")
            for row in ("give {}", "ask {}", "lost {} : a", "lost a : {}"):
                self.row_is_done(row.format(text))

    def test_back(self):
        self.is_refused("names a\nback", 1, "back")
        self.is_refused("names a\n\nkeep x\nask a\nworlds\nback\ntake 1 a", 5, "back")
        self.is_refused("names a\ntake 1 a\nback\nback", 3, "back")
        self.is_refused("names a\ntake 1 a\nback\nagain\nback\nback", 5, "back")
        self.is_refused("names a\ntake 1 a\ngive a\nback\nback\n \nback\nagain", 6, "back")

    def test_again(self):
        self.is_refused("names a\nagain", 1, "again")
        self.is_refused("names a\ntake 1 a\nagain", 2, "again")
        self.is_refused("names a\ntake 1 a\nback\nagain\n\nagain", 5, "again")
        for deed in ("take 1 a", "give a", "lean 0 a", "pour 1 x", "take 1 1"):
            self.is_refused(f"names a\nkeep x\ntake 1 a\nback\n{deed}\nagain", 5, "again")


class Places(Refusals):
    def test_all_rows_are_counted(self):
        for ahead, between in itertools.product((0, 1, 4), (0, 1, 7)):
            blanks = [" "] * between
            rows = [""] * ahead + ["names a"] + blanks + ["take 1 a"] + blanks + ["give 1", "", "x"]
            self.is_refused("\n".join(rows), ahead + 2 + 2 * between, "always")
        for place in range(1, 100):
            rows = ["names a"] + ["take 1 a"] * 99
            rows[place] = "take 0 a"
            self.is_refused("\n".join(rows), place, "row")

    def test_the_first_refused_row(self):
        wrong = [("x", "row"), ("ask", "sentence"), ("ask " + DEEP, "deep"), ("ask c", "name"), ("pour 1 x", "kept"),
                 ("give 1", "always"), ("take 1 0", "never"), ("back", "back"), ("again", "again")]
        for (row, word), (other, _) in itertools.product(wrong, wrong):
            self.is_refused("\n".join(["names a b", row, other]), 1, word)
            self.is_refused("\n".join(["names a b", "ask a", "", row, "ask a", other]), 3, word)

    def test_the_rows_ahead_have_been_done(self):
        # each row's refusal hangs on the rows ahead of it
        self.is_refused("names a\nkeep x\ntake 1 a\npour 1 x\nback\nback\nback", 6, "back")
        self.is_refused("names a\ntake 1 a\nback\nagain\nagain", 4, "again")

    def test_a_refused_text_leaves_nothing(self):
        for text in ("names a\nkeep x\ntake 1 a\nback\nx", "names a\nkeep x\ntake 1 a\nback\npour 1 y"):
            self.assertIsNotNone(refused(text))
            self.is_refused("names a\npour 1 x", 1, "kept")
            self.is_refused("names a\nagain", 1, "again")
            self.assertEqual(run("names a\nworlds"), (["0 1"], []))

    def test_the_class_and_its_fields(self):
        with self.assertRaises(Refused) as caught:
            run("names a\n\nask c")
        error = caught.exception
        self.assertIsInstance(error, MindError)
        self.assertIsInstance(error, ValueError)
        self.assertEqual((error.place, error.word), (2, "name"))
        self.assertEqual([type(error.place), type(error.word)], [int, str])


if __name__ == "__main__":
    unittest.main()
