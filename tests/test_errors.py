"""The interface's error classes."""

import unittest

from onechange.errors import ChangeError, NoListing, NoMove, NoNumber, NoState, NoThing, TooFar

REFUSALS = (NoListing, NoThing, NoNumber, NoState, NoMove, TooFar)


class ErrorsTest(unittest.TestCase):
    def test_change_error_is_a_value_error(self):
        self.assertEqual(ChangeError.__bases__, (ValueError,))

    def test_each_refusal_stands_straight_under_change_error(self):
        for refusal in REFUSALS:
            self.assertEqual(refusal.__bases__, (ChangeError,))

    def test_no_refusal_is_another(self):
        self.assertEqual(len(set(REFUSALS)), 6)
        for refusal in REFUSALS:
            for other in REFUSALS:
                self.assertEqual(issubclass(refusal, other), refusal is other)

    def test_names(self):
        names = [refusal.__name__ for refusal in REFUSALS]
        self.assertEqual(names, ["NoListing", "NoThing", "NoNumber", "NoState", "NoMove", "TooFar"])

    def test_each_is_raised_with_words_and_taken_as_change_error(self):
        for refusal in (ChangeError,) + REFUSALS:
            with self.assertRaises(ChangeError) as caught:
                raise refusal("words")
            self.assertEqual(str(caught.exception), "words")


if __name__ == "__main__":
    unittest.main()
