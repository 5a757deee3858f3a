import itertools
import unittest

from balepress.errors import BadPieces, BadRow
from balepress.windows import pieces_of, text_of
from tests.reckoned import copied, searched
from tests.samples import no_rows, no_signs, no_whole_numbers, spread


def texts():
    told = [[], [0], [255], [1, 2], [1, 2, 3], [7] * 2, [7] * 3, [7] * 4, [7] * 5, [7] * 18, [7] * 19, [7] * 20,
            [7] * 21, [7] * 22, [7] * 100, [1, 2] * 30, [1, 2, 3] * 30, list(range(256)), list(range(256)) * 2,
            [1, 2, 3, 4, 1, 2, 3, 5, 1, 2, 3, 4], [1, 2, 3, 9, 1, 2, 3, 8, 1, 2, 3, 7]]
    for seed, (many, below) in enumerate([(300, 2), (300, 3), (200, 4), (400, 10), (600, 256), (64, 3), (700, 2)]):
        told.append(spread(seed, many, below))
    return told


def windows():
    return [None, [], [7], [7] * 3, [1, 2, 3], [1, 2, 3, 4, 5, 6], spread(8, 100, 3), spread(9, 192, 256), [7] * 255,
            list(range(1, 256)), spread(10, 255, 2), spread(11, 255, 4)]


def no_pieces():
    things = no_whole_numbers() + [
        None, 0, "sign", "copy", [], ["sign", 1], ["copy", 1, 3], {"sign": 1}, (), ("sign",), ("copy",), ("copy", 1),
        ("sign", 1, 2), ("sign", 1, 3), ("copy", 1, 3, 4), (1, "sign"), ("Sign", 1), ("COPY", 1, 3), ("", 1),
        ("sign ", 1), ("copy\n", 1, 3), ("copy", 3), ("sing", 1), ("back", 1, 3), (None, 1), (b"sign", 1), (1, 1, 3),
        (("sign", 1),), (["sign"], 1), ("sign", (1,)), "si", "sig"]
    things += [(word, 1) for word in no_whole_numbers()] + [(word, 1, 3) for word in no_whole_numbers()]
    things += [("sign", sign) for sign in no_signs()]
    things += [("copy", back, 3) for back in [-1, 0, 256, 1000, 10 ** 5000, -10 ** 5000] + no_whole_numbers()]
    things += [("copy", 1, size) for size in [-1, 0, 1, 2, 19, 20, 10 ** 5000, -10 ** 5000] + no_whole_numbers()]
    return things


class PiecesTest(unittest.TestCase):
    def test_by_hand(self):
        self.assertEqual(pieces_of([]), [])
        self.assertEqual(pieces_of([5]), [("sign", 5)])
        self.assertEqual(pieces_of([5], [5, 5, 5]), [("sign", 5)])
        self.assertEqual(pieces_of([7, 7, 7, 7]), [("sign", 7), ("copy", 1, 3)])
        self.assertEqual(pieces_of([7, 7, 7]), [("sign", 7), ("sign", 7), ("sign", 7)])
        self.assertEqual(pieces_of([7, 7, 7], [7]), [("copy", 1, 3)])
        self.assertEqual(pieces_of([1, 2, 1, 2, 1, 2]), [("sign", 1), ("sign", 2), ("copy", 2, 4)])
        self.assertEqual(pieces_of([3, 4, 5, 3, 4], [9, 3, 4, 5]), [("copy", 3, 5)])
        self.assertEqual(pieces_of(text=[1, 2, 3], before=[1, 2, 3]), [("copy", 3, 3)])

    def test_the_longest_and_of_several_the_nearest(self):
        far_longer = [1, 2, 3, 4, 0, 1, 2, 3, 5, 0]
        self.assertEqual(pieces_of([1, 2, 3, 4], far_longer), [("copy", 10, 4)])
        self.assertEqual(pieces_of([1, 2, 3, 6], far_longer), [("copy", 5, 3), ("sign", 6)])
        self.assertEqual(pieces_of([1, 2, 3], [1, 2, 3] * 4), [("copy", 3, 3)])
        self.assertEqual(pieces_of([1, 2, 3, 1, 2], [1, 2, 3, 1, 2, 0, 1, 2, 3, 0]), [("copy", 10, 5)])

    def test_sizes_of_3_to_18(self):
        for size in range(1, 25):
            text = list(range(size))
            pieces = pieces_of(text, text + [100])
            if size < 3:
                self.assertEqual(pieces, [("sign", sign) for sign in text])
            elif size <= 18:
                self.assertEqual(pieces, [("copy", size + 1, size)])
            else:
                self.assertEqual(pieces[0], ("copy", size + 1, 18))
                self.assertEqual(text_of(pieces, text + [100]), text)

    def test_each_back(self):
        for back in range(3, 256):
            window = [1, 2, 3] + [50 + place % 200 for place in range(back - 3)]
            self.assertEqual(pieces_of([1, 2, 3], window), [("copy", back, 3)])
            self.assertEqual(pieces_of(window + [1, 2, 3])[-1], ("copy", back, 3))
        self.assertEqual(pieces_of([1] * 4, [1])[0], ("copy", 1, 4))
        self.assertEqual(pieces_of([1, 2] * 2, [1, 2])[0], ("copy", 2, 4))

    def test_no_back_of_256(self):
        between = list(range(4, 256)) + [0]
        self.assertEqual(pieces_of([1, 2, 3] + between + [1, 2, 3])[-3:], [("sign", 1), ("sign", 2), ("sign", 3)])
        self.assertEqual(pieces_of([1, 2, 3] + between[1:] + [1, 2, 3])[-1], ("copy", 255, 3))
        self.assertEqual(pieces_of([9, 1, 2, 3], [1, 2, 3] + between[1:])[-3:],
                         [("sign", 1), ("sign", 2), ("sign", 3)])

    def test_against_a_plain_search(self):
        for text in texts():
            for before in windows()[:: 3 if len(text) > 250 else 1]:
                told = pieces_of(text, before)
                self.assertEqual(told, searched(text, before))
                self.assertIs(type(told), list)
                self.assertTrue(all(type(piece) is tuple for piece in told))

    def test_all_short_texts(self):
        for many in range(7):
            for text in itertools.product((0, 1), repeat=many):
                for before in (None, [1], [0, 1], [0, 0, 1, 1]):
                    self.assertEqual(pieces_of(list(text), before), searched(list(text), before))

    def test_before_left_out(self):
        for text in texts():
            alone = pieces_of(text)
            self.assertEqual(pieces_of(text, None), alone)
            self.assertEqual(pieces_of(text, []), alone)

    def test_what_is_handed_in_stays(self):
        text, before = [1, 2, 3, 1, 2, 3, 1], [3, 1, 2]
        told = pieces_of(text, before)
        self.assertEqual((text, before), ([1, 2, 3, 1, 2, 3, 1], [3, 1, 2]))
        kept = list(told)
        text[0] = before[0] = 9
        text.append(9)
        self.assertEqual(told, kept)
        told.append(("sign", 1))
        self.assertEqual(pieces_of([1, 2, 3, 1, 2, 3, 1], [3, 1, 2]), kept)

    def test_text_and_window_may_be_one_list(self):
        row = [1, 2, 3, 4]
        self.assertEqual(pieces_of(row, row), [("copy", 4, 4)])
        self.assertEqual(row, [1, 2, 3, 4])

    def test_refusals(self):
        for place, thing in enumerate(no_rows()):
            with self.subTest(place=place):
                if thing is not None:
                    self.assertRaises(BadRow, pieces_of, [1, 2], thing)
                    self.assertRaises(BadRow, pieces_of, [], thing)
                self.assertRaises(BadRow, pieces_of, thing)
                self.assertRaises(BadRow, pieces_of, thing, [1])
        for many in (256, 257, 1000):
            self.assertRaises(BadRow, pieces_of, [1, 2], [1] * many)
            self.assertRaises(BadRow, pieces_of, [], [1] * many)
        self.assertEqual(pieces_of([], [1] * 255), [])


class TextTest(unittest.TestCase):
    def test_by_hand(self):
        self.assertEqual(text_of([]), [])
        self.assertEqual(text_of([], [1, 2]), [])
        self.assertEqual(text_of([("sign", 0), ("sign", 255)]), [0, 255])
        self.assertEqual(text_of([("sign", 7), ("copy", 1, 18)]), [7] * 19)
        self.assertEqual(text_of([("copy", 2, 5)], [9, 1, 2]), [1, 2, 1, 2, 1])
        self.assertEqual(text_of(pieces=[("sign", 5), ("copy", 4, 3)], before=[1, 2, 3]), [5, 1, 2, 3])

    def test_back_to_the_text(self):
        for text in texts():
            for before in windows():
                told = text_of(pieces_of(text, before), before)
                self.assertEqual(told, text)
                self.assertIs(type(told), list)
            self.assertEqual(text_of(pieces_of(text)), text)

    def test_any_pieces(self):
        for back in range(1, 256):
            for size in (3, 4, 17, 18):
                window = spread(back, back, 256)
                self.assertEqual(text_of([("copy", back, size)], window), copied(window, back, size))
                signs = [("sign", sign) for sign in window]
                self.assertEqual(text_of(signs + [("copy", back, size)]), window + copied(window, back, size))
        for size in range(3, 19):
            self.assertEqual(text_of([("copy", 1, size)], [4]), [4] * size)

    def test_pieces_that_would_not_be_told(self):
        self.assertEqual(text_of([("sign", 7)] * 10), [7] * 10)
        self.assertEqual(text_of([("sign", 7), ("copy", 1, 3), ("copy", 4, 3), ("copy", 2, 3)]), [7] * 10)
        self.assertEqual(text_of([("copy", 200, 3), ("copy", 203, 3)], [1] * 200), [1] * 6)

    def test_many_pieces(self):
        pieces, signs = [("sign", 1), ("sign", 2)], [1, 2]
        for back, size in zip(spread(1, 200, 255), spread(2, 200, 16)):
            back, size = min(1 + back, len(signs)), 3 + size
            pieces += [("copy", back, size), ("sign", size)]
            signs += copied(signs, back, size) + [size]
        self.assertEqual(text_of(pieces), signs)

    def test_before_left_out(self):
        pieces = [("sign", 3), ("copy", 1, 4)]
        self.assertEqual(text_of(pieces), [3] * 5)
        self.assertEqual(text_of(pieces, None), [3] * 5)
        self.assertEqual(text_of(pieces, []), [3] * 5)

    def test_what_is_handed_in_stays(self):
        pieces, before = [("sign", 3), ("copy", 2, 4)], [8]
        told = text_of(pieces, before)
        self.assertEqual((pieces, before), ([("sign", 3), ("copy", 2, 4)], [8]))
        pieces.append(("sign", 9))
        before[0] = 9
        self.assertEqual(told, [3, 8, 3, 8, 3])
        told[0] = 77
        self.assertEqual(text_of([("sign", 3), ("copy", 2, 4)], [8]), [3, 8, 3, 8, 3])

    def test_no_pieces(self):
        for place, thing in enumerate(no_pieces()):
            for pieces in ([thing], [thing, ("sign", 1)], [("sign", 1), thing], [("sign", 1)] * 9 + [thing]):
                with self.subTest(place=place, many=len(pieces)):
                    self.assertRaises(BadPieces, text_of, pieces)
                    self.assertRaises(BadPieces, text_of, pieces, [1] * 255)

    def test_no_list(self):
        for place, thing in enumerate(no_rows()):
            if not isinstance(thing, list):
                with self.subTest(place=place):
                    self.assertRaises(BadPieces, text_of, thing)
                    self.assertRaises(BadPieces, text_of, thing, [1])
        self.assertRaises(BadPieces, text_of, (("sign", 1),))

    def test_a_copy_from_farther_back_than_there_are_signs(self):
        for many in range(255):
            for ahead in ([("sign", 1)] * many, [("sign", 1)] * (many // 2)):
                window = [2] * (many - len(ahead))
                self.assertRaises(BadPieces, text_of, ahead + [("copy", many + 1, 3)], window)
                self.assertRaises(BadPieces, text_of, ahead + [("copy", 255, 18)], window)
                if many > 0:
                    self.assertEqual(len(text_of(ahead + [("copy", many, 3)], window)), len(ahead) + 3)
        self.assertRaises(BadPieces, text_of, [("copy", 1, 3)])
        self.assertRaises(BadPieces, text_of, [("copy", 1, 3)], [])
        self.assertRaises(BadPieces, text_of, [("copy", 1, 3), ("sign", 1)], None)

    def test_bad_row_ahead_of_bad_pieces(self):
        for place, thing in enumerate(no_rows()):
            if thing is not None:
                with self.subTest(place=place):
                    for pieces in ([], [("sign", 1)], [("sign", -1)], [("copy", 255, 3)], None, "abc"):
                        self.assertRaises(BadRow, text_of, pieces, thing)
        for many in (256, 257, 1000):
            for pieces in ([], [("sign", 1)], [("sign", 256)], None):
                self.assertRaises(BadRow, text_of, pieces, [1] * many)


if __name__ == "__main__":
    unittest.main()
