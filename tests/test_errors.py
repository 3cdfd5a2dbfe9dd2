"""The refusals, as the interface names them."""

import unittest

from woolyears import errors

WITH_A_TEXT = (
    "NoClips", "NoPromises", "NoSales", "NoBook", "NoNumber", "NoYear", "NoWeights", "NoPaper", "NoGrowth",
    "NoPromise", "NoSort", "NoClip", "NoSale", "NoDeed", "NoText", "NoLine",
)


class Errors(unittest.TestCase):
    def test_any_refusal_is_a_value_error(self):
        self.assertEqual(errors.WoolError.__bases__, (ValueError,))

    def test_each_stands_straight_under_wool_error(self):
        for name in WITH_A_TEXT + ("TooMany",):
            with self.subTest(name=name):
                self.assertEqual(getattr(errors, name).__bases__, (errors.WoolError,))

    def test_no_two_are_one(self):
        kinds = {getattr(errors, name) for name in WITH_A_TEXT + ("TooMany",)}
        self.assertEqual(len(kinds), len(WITH_A_TEXT) + 1)

    def test_each_is_made_with_a_text(self):
        for name in WITH_A_TEXT + ("WoolError",):
            with self.subTest(name=name):
                self.assertEqual(str(getattr(errors, name)("some words")), "some words")

    def test_too_many_has_its_fields(self):
        for many, most in ((11, 10), (21, 20), (13, 12)):
            error = errors.TooMany(many, most)
            self.assertEqual((error.many, error.most), (many, most))

    def test_too_many_has_fields_of_its_own(self):
        one, other = errors.TooMany(11, 10), errors.TooMany(21, 20)
        self.assertEqual((one.many, one.most, other.many, other.most), (11, 10, 21, 20))

    def test_too_many_is_taken_as_any_refusal(self):
        with self.assertRaises(errors.WoolError) as caught:
            raise errors.TooMany(13, 12)
        self.assertEqual(caught.exception.many, 13)
        self.assertIsInstance(str(caught.exception), str)


if __name__ == "__main__":
    unittest.main()
