import unittest

from balepress.errors import BadRow, Over
from balepress.pressing import Presser, pressed
from tests.reckoned import bale_of, blocks_of, remainder, tail_of
from tests.samples import no_rows, spread

MARK = [184, 66, 1]
COUNTS = [0, 1, 2, 63, 64, 65, 127, 128, 129, 192, 255, 256, 257, 300, 320, 512, 513, 640]


def texts():
    told = []
    for place, count in enumerate(COUNTS):
        told.append(spread(place, count, (2, 5, 20, 256)[place % 4]))
        told.append(([7] * count, list(range(70)) * 10, [1, 2, 3] * 300, spread(9, 64, 256) * 10)[place % 4][:count])
    return told


def cut(text, sizes):
    """The text in pieces of these sizes, over and over."""
    pieces, begin, step = [], 0, 0
    while begin < len(text):
        size = sizes[step % len(sizes)]
        pieces.append(text[begin:begin + size])
        begin, step = begin + size, step + 1
    return pieces


def ready(text, many):
    """What is ready behind so many signs of the text: the mark and each whole block."""
    return MARK + sum(blocks_of(text[:many - many % 64]), [])


class PressedTest(unittest.TestCase):
    def test_no_signs_by_hand(self):
        zeros = [0, 0, remainder([0, 0], 8)]
        tail = zeros + [0, 0, 0, 0, 255, 255]
        check = remainder(tail, 16)
        self.assertEqual(pressed([]), [184, 66, 1] + tail + [check // 256, check % 256])

    def test_one_sign_by_hand(self):
        block = [0, 1, remainder([0, 1], 8), 6]
        check = remainder(block, 16)
        bale = [184, 66, 1] + block + [check // 256, check % 256]
        tail = [0, 0, remainder([0, 0], 8), 0, 0, 0, 1] + [remainder([6], 16) // 256, remainder([6], 16) % 256]
        check = remainder(tail, 16)
        self.assertEqual(pressed([6]), bale + tail + [check // 256, check % 256])
        self.assertEqual(pressed(text=[6]), pressed([6]))

    def test_byte_by_byte(self):
        for text in texts():
            kept = list(text)
            bale = pressed(text)
            self.assertEqual(bale, bale_of(text))
            self.assertIs(type(bale), list)
            self.assertEqual(text, kept)

    def test_no_longer_than_told(self):
        for text in texts() + [spread(count, count, 256) for count in range(0, 400, 13)]:
            blocks = (len(text) + 63) // 64
            self.assertLessEqual(len(pressed(text)), len(text) + 5 * blocks + 14)
        scattered = [place * 37 % 256 for place in range(256)]
        self.assertEqual(len(pressed(scattered)), 256 + 5 * 4 + 14)

    def test_windows_are_those_of_the_group(self):
        part = spread(3, 64, 256)
        blocks = blocks_of(part * 9)
        self.assertEqual([block[0] // 64 for block in blocks], [0, 2, 2, 2, 0, 2, 2, 2, 0])
        self.assertEqual(pressed(part * 9), MARK + sum(blocks, []) + tail_of(part * 9))
        self.assertEqual(blocks[4], blocks[0])
        first, last = spread(4, 64, 256), spread(5, 64, 256)
        far = first + last + spread(6, 64, 256) + first
        self.assertEqual(pressed(far), bale_of(far))
        self.assertEqual(blocks_of(far)[3][0] // 64, 2)

    def test_count_of_more_bytes(self):
        text = [5] * 66000
        self.assertEqual(pressed(text)[-11:], tail_of(text))
        self.assertEqual(pressed(text)[-8:-4], [0, 1, 1, 208])

    def test_refusals(self):
        for place, thing in enumerate(no_rows()):
            with self.subTest(place=place):
                self.assertRaises(BadRow, pressed, thing)
        self.assertRaises(BadRow, pressed, [1] * 300 + [256])
        self.assertRaises(BadRow, pressed, [1] * 300 + [True])

    def test_what_was_told_stays(self):
        text = [1, 2, 3] * 30
        bale = pressed(text)
        kept = list(bale)
        text[0] = 9
        text.append(9)
        self.assertEqual(bale, kept)
        bale[0] = 0
        bale.append(0)
        self.assertEqual(pressed([1, 2, 3] * 30), kept)


class PresserTest(unittest.TestCase):
    def fed(self, pieces):
        """What comes of the pieces, each held against what is ready by it."""
        presser, text, told = Presser(), sum(pieces, []), []
        many = 0
        for piece in pieces:
            row = presser.feed(piece)
            self.assertIs(type(row), list)
            told += row
            many += len(piece)
            self.assertEqual(told, self.wanted(text, many), many)
        rest = presser.finish()
        self.assertIs(type(rest), list)
        self.assertEqual(told + rest, bale_of(text))
        return told + rest

    def wanted(self, text, many):
        whole = many - many % 64
        key = (tuple(text), whole)
        if key not in self.known:
            self.known[key] = ready(text, many)
        return self.known[key]

    def setUp(self):
        self.known = {}

    def test_fed_at_once(self):
        for text in texts():
            self.assertEqual(self.fed([text]), pressed(text))

    def test_fed_sign_by_sign(self):
        for count in (1, 63, 64, 65, 128, 256, 257, 300):
            for below in (3, 256):
                text = spread(count, count, below)
                self.assertEqual(self.fed([[sign] for sign in text]), pressed(text))

    def test_fed_in_pieces(self):
        for place, text in enumerate(texts()):
            sizes = [[63], [64], [65], [1, 64, 62], [200, 3], [130, 0, 1], [0, 7, 0], [256, 1], [32, 32, 64]][place % 9]
            self.assertEqual(self.fed(cut(text, sizes)), pressed(text))

    def test_pieces_of_no_signs(self):
        for text in ([], [5], spread(1, 64, 9), spread(2, 100, 9)):
            self.assertEqual(self.fed([[], [], text, [], []]), pressed(text))
            self.assertEqual(self.fed([text, []]), pressed(text))

    def test_the_mark_with_the_first_feeding(self):
        presser = Presser()
        self.assertEqual(presser.feed([]), MARK)
        self.assertEqual(presser.feed([]), [])
        self.assertEqual(presser.feed(text=[1]), [])
        self.assertEqual(presser.feed([]), [])
        presser = Presser()
        self.assertEqual(presser.feed([1] * 63), MARK)
        self.assertEqual(presser.feed([1]), blocks_of([1] * 64)[0])
        self.assertEqual(presser.feed([]), [])

    def test_finish_ahead_of_any_feeding(self):
        self.assertEqual(Presser().finish(), MARK + tail_of([]))

    def test_finish_tells_the_rest_and_the_tail(self):
        for count in (0, 1, 63, 64, 65, 192, 256, 257):
            text = spread(count, count, 30)
            presser = Presser()
            presser.feed(text)
            last = blocks_of(text)[-1] if count % 64 else []
            self.assertEqual(presser.finish(), last + tail_of(text))

    def test_over(self):
        for text in (None, [], [1], spread(1, 64, 256), spread(2, 200, 9)):
            presser = Presser()
            if text is not None:
                presser.feed(text)
            presser.finish()
            for step in range(2):
                self.assertRaises(Over, presser.finish)
                self.assertRaises(Over, presser.feed, [])
                self.assertRaises(Over, presser.feed, [1, 2])
        for place, thing in enumerate(no_rows()):
            with self.subTest(place=place):
                self.assertRaises(Over, presser.feed, thing)

    def test_a_refused_feeding_changes_nothing(self):
        text = spread(8, 150, 20)
        for many in (0, 1, 63, 64, 100):
            for place, thing in enumerate(no_rows() + [[1] * 200 + [256], [2] * 64 + [True]]):
                with self.subTest(many=many, place=place):
                    presser, plain = Presser(), Presser()
                    if many > 0:
                        self.assertEqual(presser.feed(text[:many]), plain.feed(text[:many]))
                    self.assertRaises(BadRow, presser.feed, thing)
                    if place % 50 == 0:
                        self.assertEqual(presser.feed(text[many:]), plain.feed(text[many:]))
                        self.assertEqual(presser.finish(), plain.finish())

    def test_refused_over_and_over(self):
        text = spread(9, 150, 20)
        presser, told = Presser(), []
        for sign, thing in zip(text, no_rows() + [[-1]] * 150):
            self.assertRaises(BadRow, presser.feed, thing)
            told += presser.feed([sign])
        self.assertEqual(told + presser.finish(), bale_of(text))
        presser = Presser()
        self.assertRaises(BadRow, presser.feed, None)
        self.assertEqual(presser.finish(), bale_of([]))

    def test_two_beside_one_another(self):
        first, second = spread(1, 300, 5), spread(2, 280, 256)
        one, two = Presser(), Presser()
        first_told, second_told = [], []
        for begin in range(0, 300, 20):
            first_told += one.feed(first[begin:begin + 20])
            second_told += two.feed(second[begin:begin + 20])
        first_told += one.finish()
        third = Presser()
        second_told += two.finish()
        self.assertEqual(first_told, bale_of(first))
        self.assertEqual(second_told, bale_of(second))
        self.assertEqual(third.feed([]) + third.finish(), bale_of([]))

    def test_what_is_handed_in_stays_and_may_be_changed(self):
        for many in (10, 64, 100):
            presser, text = Presser(), spread(many, many, 9)
            kept = list(text)
            told = presser.feed(text)
            self.assertEqual(text, kept)
            text[-1] = 200
            text.append(201)
            told += presser.feed(kept)
            text.clear()
            self.assertEqual(told + presser.finish(), bale_of(kept + kept))

    def test_what_was_told_stays_and_may_be_changed(self):
        text, presser, rows = spread(4, 300, 4), Presser(), []
        for piece in cut(text, [50]):
            rows.append(presser.feed(piece))
        rows.append(presser.finish())
        self.assertEqual(sum(rows, []), bale_of(text))
        presser, told = Presser(), []
        for piece in cut(text, [50]):
            row = presser.feed(piece)
            told += row
            row[:] = [0] * 200
        self.assertEqual(told + presser.finish(), bale_of(text))
        presser = Presser()
        presser.feed([]).append(5)
        self.assertEqual(Presser().feed([]), MARK)


if __name__ == "__main__":
    unittest.main()
