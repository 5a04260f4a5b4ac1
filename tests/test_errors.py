"""The refusals' classes: points 1 and 2, and the interface's errors."""

import unittest

from mindchange import errors

REFUSALS = (
    "NoSentence", "TooDeep", "NoName", "Always", "Never", "NoMinds", "Unlike", "NoBack", "NoAgain", "Refused",
)


def made(name):
    refusal = getattr(errors, name)
    return refusal(0, "row") if name == "Refused" else refusal("some words")


class TheClasses(unittest.TestCase):
    def test_mind_error_stands_under_value_error(self):
        self.assertEqual(errors.MindError.__bases__, (ValueError,))

    def test_each_refusal_stands_under_mind_error_alone(self):
        for name in REFUSALS:
            with self.subTest(name):
                self.assertEqual(getattr(errors, name).__bases__, (errors.MindError,))

    def test_each_refusal_is_of_no_other_refusals_class(self):
        for name in REFUSALS:
            error = made(name)
            self.assertIsInstance(error, errors.MindError)
            self.assertIsInstance(error, ValueError)
            for other in REFUSALS:
                with self.subTest(name, other=other):
                    self.assertEqual(isinstance(error, getattr(errors, other)), name == other)

    def test_each_refusal_can_be_raised_and_taken(self):
        for name in REFUSALS:
            for taken in (getattr(errors, name), errors.MindError, ValueError):
                with self.subTest(name, taken=taken.__name__), self.assertRaises(taken):
                    raise made(name)


class RefusedItself(unittest.TestCase):
    def test_it_has_place_and_word(self):
        for place, word in ((0, "row"), (7, "sentence"), (99, "again")):
            error = errors.Refused(place, word)
            self.assertEqual((error.place, error.word), (place, word))

    def test_its_arguments_have_their_names(self):
        error = errors.Refused(place=3, word="deep")
        self.assertEqual((error.place, error.word), (3, "deep"))

    def test_each_object_has_its_own(self):
        first = errors.Refused(1, "kept")
        second = errors.Refused(2, "back")
        self.assertEqual((first.place, first.word), (1, "kept"))
        self.assertEqual((second.place, second.word), (2, "back"))


if __name__ == "__main__":
    unittest.main()
