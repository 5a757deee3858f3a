"""What is promised over the whole program."""

import unittest

from balepress.errors import BadBody, BadCheck, BadHead, BadTail, Behind, Cut, NoRange, PressError
from balepress.letters import lettered, row_in
from balepress.looking import looked
from balepress.opening import Opener, opened
from balepress.pressing import Presser, pressed
from balepress.ranges import told_range
from tests.bales import (COUNTS, MARK, any_way_block, copy_block, cut, filled, looked_by, opened_by, range_by, texts,
                         told_by, turned)
from tests.reckoned import bale_of, block_with, checked, tail_of
from tests.samples import spread
from tests.test_blocks import with_turned_bit

SIZES = [[1], [7], [63, 2], [64], [0, 3, 200], [1000], [30, 0, 0, 70]]


def mixed_texts():
    """Texts whose blocks come in several ways, of counts about the edges of blocks and groups."""
    told = []
    for seed in range(24):
        text = []
        for step in range(6):
            count = spread(seed * 7 + step, 1, 90)[0]
            text += [[seed] * count, spread(step, count, 256), spread(step, count, 4), text[-count:]][(seed + step) % 4]
        told.append(text)
    return told


def all_texts():
    return texts(COUNTS + [2, 127, 129, 192, 255, 320, 513]) + mixed_texts()


def pressed_in(pieces):
    presser, bale = Presser(), []
    for piece in pieces:
        bale += presser.feed(piece)
    return bale + presser.finish()


def opened_in(pieces):
    opener, text = Opener(), []
    for piece in pieces:
        text += opener.feed(piece)
    opener.finish()
    return text


class RoundTest(unittest.TestCase):
    def test_pressed_and_opened_in_any_pieces(self):
        for number, text in enumerate(all_texts()):
            bale = pressed(text)
            self.assertEqual(opened(bale), text)
            self.assertEqual(pressed_in(cut(text, SIZES[number % 7])), bale)
            self.assertEqual(pressed_in(cut(text, SIZES[number % 5 + 1])), bale)
            self.assertEqual(opened_in(cut(bale, SIZES[number % 7])), text)
            self.assertEqual(opened_in(cut(bale, SIZES[number % 4 + 2])), text)

    def test_pressed_and_opened_as_it_comes(self):
        for number, text in enumerate(all_texts()[::3]):
            presser, opener, told = Presser(), Opener(), []
            done = 0
            for piece in cut(text, SIZES[number % 7]):
                told += opener.feed(presser.feed(piece))
                done += len(piece)
                self.assertEqual(told, text[:done // 64 * 64])
                self.assertIs(opener.over(), False)
            told += opener.feed(presser.finish())
            self.assertEqual(told, text)
            self.assertIs(opener.over(), True)

    def test_each_sign(self):
        for sign in range(256):
            self.assertEqual(opened(pressed([sign])), [sign])
            self.assertEqual(opened(pressed([sign, 255 - sign] * 40)), [sign, 255 - sign] * 40)

    def test_as_letters(self):
        for text in all_texts()[::5]:
            bale = row_in(lettered(pressed(text)))
            self.assertEqual(opened(bale), text)
            self.assertEqual(row_in(lettered(text)), text)

    def test_looks_and_ranges_of_what_is_pressed(self):
        for text in all_texts()[::4]:
            bale = pressed(text)
            blocks = looked(bale)
            self.assertEqual(sum(count for place, way, count, size in blocks), len(text))
            self.assertEqual(3 + sum(size for place, way, count, size in blocks) + 11, len(bale))
            begin = 0
            for place, way, count, size in blocks:
                self.assertEqual(told_range(bale, begin, count)[0], text[begin:begin + count])
                begin += count

    def test_no_longer_than_told(self):
        for text in all_texts() + [spread(count, count, 256) for count in range(0, 300, 11)]:
            blocks = (len(text) + 63) // 64
            self.assertLessEqual(len(pressed(text)), len(text) + 5 * blocks + 14)
            self.assertEqual(len(looked(pressed(text))), blocks)

    def test_a_long_text(self):
        text = spread(1, 3000, 256) + [5] * 3000 + spread(2, 1500, 3) + list(range(256)) * 6
        bale = pressed(text)
        self.assertEqual(opened(bale), text)
        self.assertEqual(opened_in(cut(bale, [1000])), text)
        self.assertEqual(told_range(bale, 5000, 2000), (text[5000:7000], (6999 // 64 + 1) - 5000 // 256 * 4))


class TurnedBitTest(unittest.TestCase):
    def beginning_alone(self, wrong, text, sizes):
        """Fed in pieces up to the refusal, nothing is told but a beginning of the text."""
        opener, told = Opener(), []
        with self.assertRaises(PressError):
            for piece in cut(wrong, sizes):
                told += opener.feed(piece)
                self.assertEqual(told, text[:len(told)])
                self.assertIs(opener.over(), False)
            opener.finish()
        self.assertIs(opener.over(), False)
        self.assertEqual(told, text[:len(told)])

    def test_each_bit_of_a_bale(self):
        for text in ([], [5], spread(1, 64, 256), [9] * 65, spread(2, 130, 3), list(range(70)) * 2):
            bale = pressed(text)
            for place in range(8 * len(bale)):
                wrong = with_turned_bit(bale, place)
                with self.assertRaises(PressError):
                    opened(wrong)
                with self.assertRaises(PressError):
                    looked(wrong)
                self.beginning_alone(wrong, text, SIZES[place % 6 + 1])
                if place % 9 == 0:
                    self.beginning_alone(wrong, text, [1])

    def test_refused_as_a_second_reckoning_tells(self):
        text = spread(3, 64, 256) + [4] * 70 + spread(4, 160, 3)
        bale = bale_of(text)
        for place in range(0, 8 * len(bale), 3):
            wrong = with_turned_bit(bale, place)
            self.assertRaises(opened_by(wrong), opened, wrong)
            self.beginning_alone(wrong, text, SIZES[place % 6 + 1])

    def test_a_range_tells_no_wrong_sign(self):
        text = spread(5, 64, 256) + [4] * 70 + spread(6, 30, 3)
        bale = bale_of(text)
        for place in range(8 * len(bale)):
            wrong = with_turned_bit(bale, place)
            with self.assertRaises(PressError):
                told_range(wrong, 0, len(text))
            try:
                self.assertEqual(told_range(wrong, 10, 60)[0], text[10:70])
            except PressError:
                continue


class AnyPartsTest(unittest.TestCase):
    """Bales put together of any parts, good ones and others, held against second reckonings."""

    def part(self, numbers, text):
        """Some part that comes next behind this text, and the text behind it."""
        kind, count, way = next(numbers) % 40, (64, 64, 64, 64, 64, 64, 63, 1)[next(numbers) % 8], next(numbers) % 4
        signs = ([next(numbers) % 256] * 32 + [next(numbers) % 256] * 32)[:count]
        block = any_way_block(way, signs, text[len(text) // 256 * 256:])
        if kind < 32:
            return block, text + signs
        if kind < 34:
            return turned(block, next(numbers) % len(block), 1 << next(numbers) % 8), text + signs
        if kind < 36:
            return block_with(way, count, [next(numbers) % 256 for step in range(next(numbers) % 64 + 1)]), text + signs
        if kind < 38:
            return copy_block(filled(("copy", next(numbers) % 256, 3))), text + signs
        return tail_of(text), text

    def bale(self, seed):
        numbers, bale, text = iter(spread(seed, 2000, 1000)), list(MARK), []
        for step in range(seed % 9):
            part, text = self.part(numbers, text)
            bale += part
        tail = tail_of(text)
        if seed % 5 == 0:
            tail = checked(turned(tail[:-2], next(numbers) % 9))
        bale += tail
        if seed % 7 == 0:
            bale = bale[:next(numbers) % len(bale)]
        return bale + [next(numbers) % 256] * (seed % 11 == 0)

    def held(self, wanted, function, *arguments):
        if isinstance(wanted, type):
            self.assertRaises(wanted, function, *arguments)
        else:
            self.assertEqual(function(*arguments), wanted)

    def test_any_parts(self):
        seen = set()
        for seed in range(500):
            with self.subTest(seed=seed):
                bale = self.bale(seed)
                text, error, over = told_by(bale)
                self.held(opened_by(bale), opened, bale)
                self.held(looked_by(bale), looked, bale)
                self.held(error or text, Opener().feed, bale)
                for begin, count in ((0, 0), (0, 1), (70, 60), (200, 100), (256, 64), (300, 1), (0, len(text))):
                    wanted = range_by(bale, begin, count)
                    self.held(wanted, told_range, bale, begin, count)
                    seen.add(wanted if isinstance(wanted, type) else list)
                seen.add(error or list)
        self.assertEqual(seen, {list, BadBody, BadCheck, BadHead, BadTail, Behind, Cut, NoRange})


if __name__ == "__main__":
    unittest.main()
