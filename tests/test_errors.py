"""The interface of errors: which classes there are, and how they are made."""

import unittest

from upwords import errors

NAMES = ("NoPlace", "NoNumber", "NoWord", "NoRows", "NoRuns", "NoCover", "NoText", "TooMany", "NoTries",
         "NoPattern", "NoLetter", "NoLeaf", "NoChange", "NoLine")


class Errors(unittest.TestCase):

    def test_the_first_stands_under_value_error(self):
        self.assertEqual(errors.UpError.__bases__, (ValueError,))

    def test_each_other_stands_straight_under_the_first(self):
        for name in NAMES + ("NoTree",):
            with self.subTest(name):
                self.assertEqual(getattr(errors, name).__bases__, (errors.UpError,))

    def test_each_is_a_class_of_its_own(self):
        self.assertEqual(len({getattr(errors, name) for name in NAMES + ("NoTree", "UpError")}), 16)

    def test_each_is_made_of_a_text_and_raised(self):
        for name in NAMES:
            for text in ("", "why it is refused"):
                with self.subTest(name):
                    with self.assertRaises(errors.UpError) as caught:
                        raise getattr(errors, name)(text)
                    self.assertIs(type(caught.exception), getattr(errors, name))

    def test_no_tree_keeps_its_at(self):
        for at in (-1, 0, 7, 4000):
            error = errors.NoTree(at)
            self.assertEqual(error.at, at)
            self.assertIs(type(error.at), int)

    def test_each_no_tree_has_an_at_of_its_own(self):
        one, other = errors.NoTree(1), errors.NoTree(2)
        self.assertEqual((one.at, other.at), (1, 2))


if __name__ == "__main__":
    unittest.main()
