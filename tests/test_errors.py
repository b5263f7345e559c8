"""[0.3] and the interface: the refusals and how they stand to one another."""

import unittest

from daytellings import errors

BELOW = ("NoCase", "NoTelling", "NoPlace", "Nothing", "NoText")


class Refusals(unittest.TestCase):
    def test_telling_error_is_a_value_error(self):
        self.assertEqual(errors.TellingError.__bases__, (ValueError,))

    def test_all_others_stand_straight_below_it(self):
        for name in BELOW:
            self.assertEqual(getattr(errors, name).__bases__, (errors.TellingError,), name)

    def test_none_stands_under_another(self):
        for name in BELOW:
            for other in BELOW:
                under = issubclass(getattr(errors, name), getattr(errors, other))
                self.assertEqual(under, name == other, (name, other))

    def test_each_can_be_raised_with_words_and_without(self):
        for name in BELOW + ("TellingError",):
            for error in (getattr(errors, name)(), getattr(errors, name)("words")):
                with self.assertRaises(ValueError):
                    raise error


if __name__ == "__main__":
    unittest.main()
