import unittest

from balepress import errors

NAMES = ["BadRow", "BadBits", "NoBits", "BadShares", "BadLengths", "BadCode", "BadTable", "BadPieces", "BadBody",
         "BadHead", "BadCheck", "BadMark", "BadTail", "Cut", "Behind", "Over", "NoRange", "BadLetters"]


class ErrorsTest(unittest.TestCase):
    def test_base(self):
        self.assertEqual(errors.PressError.__bases__, (ValueError,))

    def test_eighteen_straight_under_the_base(self):
        self.assertEqual(len(set(NAMES)), 18)
        for name in NAMES:
            with self.subTest(name=name):
                found = getattr(errors, name)
                self.assertEqual(found.__name__, name)
                self.assertEqual(found.__bases__, (errors.PressError,))
                self.assertTrue(issubclass(found, ValueError))

    def test_none_under_another(self):
        for upper in NAMES:
            for lower in NAMES:
                if upper != lower:
                    self.assertFalse(issubclass(getattr(errors, lower), getattr(errors, upper)), (lower, upper))

    def test_raised_and_taken(self):
        for name in NAMES:
            for taken in (name, "PressError"):
                with self.assertRaises(getattr(errors, taken)):
                    raise getattr(errors, name)("words")


if __name__ == "__main__":
    unittest.main()
