import unittest

from balepress.errors import BadLetters, BadRow
from balepress.letters import lettered, row_in
from tests.samples import no_rows, no_whole_numbers, spread


def by_hexadecimal(row):
    """The letters by another way: those that Python tells a byte with, moved on."""
    return bytes(row).hex().translate(str.maketrans("0123456789abcdef", "abcdefghijklmnop"))


def rows():
    return [[], [0, 0], [255] * 3, list(range(256)), list(range(255, -1, -1)), spread(1, 300, 256), spread(2, 99, 256)]


class LetteredTest(unittest.TestCase):
    def test_by_hand(self):
        for row, letters in (([], ""), ([0], "aa"), ([1], "ab"), ([15], "ap"), ([16], "ba"), ([255], "pp"),
                             ([240], "pa"), ([184, 66, 1], "liecab")):
            self.assertEqual(lettered(row), letters)
        self.assertEqual(lettered(row=[18]), "bc")

    def test_each_byte(self):
        for byte in range(256):
            self.assertEqual(lettered([byte]), by_hexadecimal([byte]))

    def test_rows(self):
        for row in rows():
            kept = list(row)
            letters = lettered(row)
            self.assertEqual(letters, by_hexadecimal(row))
            self.assertIs(type(letters), str)
            self.assertEqual(row, kept)

    def test_no_row(self):
        for place, thing in enumerate(no_rows()):
            with self.subTest(place=place):
                self.assertRaises(BadRow, lettered, thing)


class RowInTest(unittest.TestCase):
    def test_by_hand(self):
        for row, letters in (([], ""), ([0], "aa"), ([1], "ab"), ([16], "ba"), ([255], "pp"), ([184, 66, 1], "liecab")):
            self.assertEqual(row_in(letters), row)
        self.assertEqual(row_in(letters="bc"), [18])

    def test_each_pair(self):
        told = [row_in(first + second) for first in "abcdefghijklmnop" for second in "abcdefghijklmnop"]
        self.assertEqual(told, [[byte] for byte in range(256)])

    def test_read_in_again(self):
        for row in rows():
            told = row_in(lettered(row))
            self.assertEqual(told, row)
            self.assertIs(type(told), list)
            told.append(7)
            self.assertEqual(row_in(lettered(row)), row)

    def test_another_kind(self):
        things = [thing for thing in no_whole_numbers() if not isinstance(thing, str)]
        things += [0, 1, 97, -5, ["a", "b"], ["ab"], ("a", "b"), ("ab",), b"ab", bytearray(b"ab"), {"ab": 1}, {"a"}]
        for place, thing in enumerate(things):
            with self.subTest(place=place):
                self.assertRaises(BadLetters, row_in, thing)

    def test_an_odd_count(self):
        for letters in ("a", "p", "abc", "a" * 9, lettered(list(range(256)))[:-1]):
            self.assertRaises(BadLetters, row_in, letters)

    def test_any_other_sign(self):
        letters = "abcdefghijklmnop"
        others = [chr(code) for code in range(600) if chr(code) not in letters]
        others += ["\uff41", "\u0430", "\u00aa", "\U0001d41a", "\ud800", "\U0010ffff", "\u2028"]
        self.assertEqual(len(set(others)), 584 + 6)
        for sign in others:
            for text in (sign + "a", "a" + sign, sign * 2, "abc" + sign, "ab" + sign + "a", sign + "a" * 31):
                self.assertRaises(BadLetters, row_in, text)
            self.assertRaises(BadLetters, row_in, sign)

    def test_at_any_place(self):
        letters = lettered(list(range(0, 256, 7)))
        for place in range(len(letters)):
            for sign in ("q", "A", "P", " ", "\n", "0", "`", ""):
                self.assertRaises(BadLetters, row_in, letters[:place] + sign + letters[place + 1:])

    def test_more_ahead_or_behind(self):
        for text in (" ab", "ab ", "ab\n", "ab\n\n", "  ab", "ab ab ", "ab,ab,", "AB", "Ab", "aB", "qq", "aq", "qa",
                     "zz", "00", "  ", "\0\0"):
            self.assertRaises(BadLetters, row_in, text)


if __name__ == "__main__":
    unittest.main()
