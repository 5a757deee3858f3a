import unittest

from balepress.errors import BadBody, BadCheck, BadHead, BadMark, BadRow, BadTail, Behind, Cut, NoRange
from balepress.ranges import told_range
from tests.bales import (MARK, any_way_block, bale_with, copy_block, filled, heads_by, range_by, text_by, texts, turned,
                         wrong_body_block)
from tests.faults import BALE, TEXT, faults, place_of, row_with
from tests.reckoned import bale_of, block_of, block_with, blocks_of, bytes_of, checked, run_bits, tail_of
from tests.samples import Touchy, no_rows, no_whole_numbers, spread

EDGES = [0, 1, 2, 63, 64, 65, 127, 128, 191, 192, 193, 255, 256, 257, 319, 320, 321, 511, 512, 513]


def bodies_read(begin, count):
    """How many blocks' bodies a range within the text asks for."""
    return len(range(begin // 256 * 4, (begin + count - 1) // 64 + 1)) if count > 0 else 0


def no_counts():
    return [-1, -2, -64, -10 ** 5000] + no_whole_numbers()


def seen_by_heads():
    """The faults that are told without a look at a body or at the check of all signs."""
    return [fault for fault in faults() if not isinstance(heads_by(row_with(fault)), list)]


class SignsTest(unittest.TestCase):
    def held(self, bale, text, begin, count):
        told = told_range(bale, begin, count)
        self.assertEqual(told, (text[begin:begin + count], bodies_read(begin, count)), (begin, count))

    def all_of(self, text):
        bale = bale_of(text)
        for begin in range(len(text) + 1):
            for count in range(len(text) + 1 - begin):
                self.held(bale, text, begin, count)
            self.assertRaises(NoRange, told_range, bale, begin, len(text) + 1 - begin)

    def test_each_begin_and_count(self):
        for text in texts([0, 1, 64]) + texts([65])[:2]:
            self.all_of(text)

    def test_each_begin_and_count_of_more_signs(self):
        self.all_of([7] * 150 + [8] * 120)

    def test_edges_of_some_hundred_signs(self):
        for text in texts([300, 513, 600])[::2]:
            bale = bale_of(text)
            for begin in EDGES:
                for count in EDGES:
                    if begin + count <= len(text):
                        self.held(bale, text, begin, count)
                    else:
                        self.assertRaises(NoRange, told_range, bale, begin, count)

    def test_a_second_reckoning(self):
        for text in texts([65, 300]):
            bale = bale_of(text)
            for begin, count in zip(EDGES, EDGES[::-1] + [20, 0, 1, 100]):
                told = range_by(bale, begin, count)
                if told == NoRange:
                    self.assertRaises(NoRange, told_range, bale, begin, count)
                else:
                    self.assertEqual(told_range(bale, begin, count), told)

    def test_by_hand(self):
        text = spread(1, 600, 256)
        bale = bale_of(text)
        for begin, count, read in ((0, 1, 1), (0, 64, 1), (0, 65, 2), (63, 1, 1), (63, 2, 2), (64, 1, 2), (255, 1, 4),
                                   (255, 2, 5), (256, 1, 1), (256, 64, 1), (319, 2, 2), (320, 1, 2), (511, 1, 4),
                                   (512, 1, 1), (599, 1, 2), (0, 600, 10), (256, 344, 6), (300, 300, 6)):
            self.assertEqual(told_range(row=bale, begin=begin, count=count), (text[begin:begin + count], read))

    def test_kinds(self):
        for begin, count in ((0, 0), (0, 5), (60, 40)):
            told = told_range(BALE, begin, count)
            self.assertIs(type(told), tuple)
            self.assertEqual([type(value) for value in told], [list, int])

    def test_no_signs(self):
        for text in ([], [5], [5] * 64, spread(1, 300, 256)):
            bale = bale_of(text)
            for begin in {0, 1, 63, 64, 255, 256, len(text)}:
                if begin <= len(text):
                    self.assertEqual(told_range(bale, begin, 0), ([], 0))
            self.assertRaises(NoRange, told_range, bale, len(text) + 1, 0)
            self.assertRaises(NoRange, told_range, bale, len(text), 1)

    def test_any_way_and_far_windows(self):
        text = [7] * 70 + [8] * 66 + [7] * 184 + [9] * 20
        for numbers in ([3] * 6, [2] * 6, [0, 1, 2, 3, 2, 1], [2, 3, 3, 2, 2, 3]):
            blocks = []
            for step, number in enumerate(numbers):
                begin = 64 * step
                blocks.append(any_way_block(number, text[begin:begin + 64], text[begin - begin % 256:begin]))
            bale = bale_with(blocks, text)
            for begin in EDGES:
                for count in EDGES:
                    if begin + count <= len(text):
                        self.held(bale, text, begin, count)
        ahead = spread(1, 7 * 64, 256)
        pieces = filled(("copy", 192, 3))
        text = ahead + text_by(pieces, ahead[256:])
        bale = bale_with(blocks_of(ahead) + [copy_block(pieces)], text)
        self.held(bale, text, 448, 64)
        self.held(bale, text, 200, 300)


class ReadBodiesTest(unittest.TestCase):
    text = spread(4, 64 * 9, 256) + spread(5, 20, 256)
    blocks = blocks_of(text)
    tail = tail_of(text)

    def with_wrong_blocks(self, wrong):
        """The bale, and in the place of the blocks of these numbers those that wrong makes of them."""
        blocks = list(self.blocks)
        for number, make in wrong.items():
            blocks[number] = make(blocks[number])
        return MARK + sum(blocks, []) + self.tail

    def ranges(self):
        return [(begin, count) for begin in EDGES for count in EDGES + [20, 596]
                if count > 0 and begin + count <= len(self.text)]

    def spoiled(self, block):
        return turned(block, 3 + len(block) % 5)

    def wrong(self, block):
        return wrong_body_block(block[0] % 64 + 1)

    def test_bodies_that_are_not_read(self):
        for begin, count in self.ranges():
            first, end = begin // 256 * 4, (begin + count - 1) // 64 + 1
            others = [number for number in range(10) if not first <= number < end]
            for make in (self.spoiled, self.wrong):
                bale = self.with_wrong_blocks(dict.fromkeys(others, make))
                self.assertEqual(told_range(bale, begin, count), (self.text[begin:begin + count], end - first))

    def test_bodies_that_are_read(self):
        bales = {(number, error): self.with_wrong_blocks({number: make}) for number in range(10)
                 for make, error in ((self.spoiled, BadCheck), (self.wrong, BadBody))}
        for begin, count in self.ranges():
            for number in range(begin // 256 * 4, (begin + count - 1) // 64 + 1):
                for error in (BadCheck, BadBody):
                    self.assertRaises(error, told_range, bales[number, error], begin, count)

    def test_no_signs_read_nothing(self):
        for make in (self.spoiled, self.wrong):
            bale = self.with_wrong_blocks(dict.fromkeys(range(10), make))
            for begin in EDGES + [len(self.text)]:
                self.assertEqual(told_range(bale, begin, 0), ([], 0))

    def test_each_turned_bit_of_a_block(self):
        text = [1, 2, 3] * 50
        blocks = blocks_of(text)
        for place in range(3, len(blocks[1])):
            for bit in range(8):
                bale = bale_with([blocks[0], turned(blocks[1], place, 1 << bit), blocks[2]], text)
                self.assertEqual(told_range(bale, 10, 54), (text[10:64], 1))
                self.assertRaises(BadCheck, told_range, bale, 10, 55)
                self.assertRaises(BadCheck, told_range, bale, 140, 2)

    def test_the_first_of_two(self):
        for first in range(9):
            for second in range(first + 1, 10):
                for one, error in ((self.spoiled, BadCheck), (self.wrong, BadBody)):
                    for other in (self.spoiled, self.wrong):
                        if first in (0, 2, 4, 7):
                            bale = self.with_wrong_blocks({first: one, second: other})
                            self.assertRaises(error, told_range, bale, 0, len(self.text))

    def test_check_ahead_of_body(self):
        bale = self.with_wrong_blocks({1: lambda block: turned(self.wrong(block), 3)})
        self.assertRaises(BadCheck, told_range, bale, 0, 65)

    def test_a_copy_out_of_the_group(self):
        ahead = spread(1, 4 * 64, 256)
        pieces = filled(("copy", 64, 3))
        text = ahead + text_by(pieces, ahead)
        bale = bale_with(blocks_of(ahead) + [copy_block(pieces)], text)
        self.assertRaises(BadBody, told_range, bale, 256, 1)
        self.assertRaises(BadBody, told_range, bale, 0, 320)
        self.assertEqual(told_range(bale, 0, 256), (ahead, 4))


class RefusalTest(unittest.TestCase):
    def test_each(self):
        seen = set()
        for number, fault in enumerate(seen_by_heads()):
            with self.subTest(number=number):
                row = row_with(fault)
                first = row[:place_of(fault.part) + fault.many]
                for begin, count in ((0, 0), (0, 1), (0, len(TEXT)), (len(TEXT), 1), (10 ** 40, 0), (0, 10 ** 40)):
                    self.assertRaises(fault.error, told_range, row, begin, count)
                    self.assertRaises(fault.error, told_range, first, begin, count)
                seen.add(fault.error)
        self.assertEqual(seen, {BadMark, BadHead, BadTail, Behind})

    def test_the_first_of_two(self):
        some = seen_by_heads()[::3]
        for first in some:
            for second in some:
                if first.part < second.part:
                    self.assertRaises(first.error, told_range, row_with(first, second), 0, 1)

    def test_heads_ahead_of_bodies(self):
        bodies = [fault for fault in faults() if fault.error in (BadCheck, BadBody)]
        for body in bodies:
            self.assertEqual(range_by(row_with(body), 0, len(TEXT)), body.error)
            self.assertRaises(body.error, told_range, row_with(body), 0, len(TEXT))
            self.assertRaises(NoRange, told_range, row_with(body), 0, len(TEXT) + 1)
            for fault in seen_by_heads()[::4]:
                if fault.part != body.part:
                    self.assertRaises(fault.error, told_range, row_with(body, fault), 0, len(TEXT))
            self.assertRaises(Cut, told_range, row_with(body)[:-1], 0, len(TEXT))

    def test_cut(self):
        for text in texts([0, 1, 64, 65, 130]):
            bale = bale_of(text)
            for many in range(len(bale)):
                for begin, count in ((0, 0), (0, 1), (0, 1000)):
                    self.assertRaises(Cut, told_range, bale[:many], begin, count)
        for row in ([], [184], [184, 66], MARK, MARK + [0, 0]):
            self.assertRaises(Cut, told_range, row, 0, 0)

    def test_the_mark_ahead_of_cut(self):
        for row in ([0], [185], [184, 65], [66], [184, 66, 0], [184, 66, 2, 0]):
            self.assertRaises(BadMark, told_range, row, 0, 0)

    def test_cut_behind_a_head_that_is_wrong_or_not_there(self):
        self.assertRaises(BadHead, told_range, MARK + [5, 5, 5], 0, 0)
        self.assertRaises(Cut, told_range, MARK + [5, 5], 0, 0)
        bale = MARK + block_of([1])
        self.assertRaises(BadHead, told_range, bale + block_of([1])[:3], 0, 0)
        self.assertRaises(Cut, told_range, bale + block_of([1])[:2], 0, 0)
        self.assertRaises(Cut, told_range, bale + tail_of([1])[:10], 0, 0)

    def test_behind_a_short_block(self):
        for count in (1, 63):
            for whole in (0, 1, 3, 4):
                text = [5] * (64 * whole + count)
                bale = MARK + sum(blocks_of(text), [])
                for after in (1, 64 - count, 64):
                    block = block_with(1, after, bytes_of(run_bits([5] * after)))
                    self.assertRaises(BadHead, told_range, bale + block + tail_of(text + [5] * after), 0, 1)

    def test_the_check_of_all_signs_is_not_looked_at(self):
        tail = tail_of(TEXT)
        for place in (7, 8):
            for mask in range(1, 256):
                row = BALE[:-11] + checked(turned(tail[:-2], place, mask))
                self.assertEqual(told_range(row, 60, 50), (TEXT[60:110], 2))
                self.assertRaises(BadTail, told_range, BALE[:-11] + turned(tail, place, mask), 60, 50)

    def test_the_count_of_the_tail(self):
        tail = tail_of(TEXT)
        for place in range(3, 7):
            for bit in range(8):
                for row in (turned(tail, place, 1 << bit), checked(turned(tail[:-2], place, 1 << bit))):
                    self.assertRaises(BadTail, told_range, BALE[:-11] + row, 0, 1)
        for place in (9, 10):
            for bit in range(8):
                self.assertRaises(BadTail, told_range, BALE[:-11] + turned(tail, place, 1 << bit), 0, 1)

    def test_behind(self):
        for more in ([0], [0] * 20, BALE, tail_of(TEXT)):
            for begin, count in ((0, 0), (0, 1), (0, 1000)):
                self.assertRaises(Behind, told_range, BALE + more, begin, count)

    def test_beyond_the_last_sign(self):
        for text in ([], [5], [5] * 64, TEXT):
            bale, many = bale_of(text), len(text)
            for begin, count in ((0, many + 1), (many + 1, 0), (many, 1), (1, many), (many + 5, 0), (2 ** 32, 0),
                                 (0, 2 ** 32), (2 ** 32, 2 ** 32), (0, many + 2 ** 32), (10 ** 5000, 0),
                                 (0, 10 ** 5000)):
                self.assertRaises(NoRange, told_range, bale, begin, count)


class NoNumbersTest(unittest.TestCase):
    def test_no_row_ahead_of_all_else(self):
        for place, thing in enumerate(no_rows() + [BALE + [256], BALE[:3] + [True], tuple(BALE), [0, -1]]):
            with self.subTest(place=place):
                self.assertRaises(BadRow, told_range, thing, 0, 0)
                self.assertRaises(BadRow, told_range, thing, -1, None)
                self.assertRaises(BadRow, told_range, thing, Touchy(), Touchy())

    def test_no_whole_numbers_from_0_on(self):
        rows = [BALE, bale_of([]), [], [1], MARK, BALE[:-1], BALE + [0], row_with(*faults()[:1]), turned(BALE, 4)]
        for place, thing in enumerate(no_counts()):
            with self.subTest(place=place):
                for row in rows:
                    self.assertRaises(NoRange, told_range, row, thing, 1)
                    self.assertRaises(NoRange, told_range, row, 0, thing)
                    self.assertRaises(NoRange, told_range, row, thing, thing)
                    self.assertRaises(NoRange, told_range, row, 10 ** 9, thing)

    def test_true_and_false(self):
        for begin, count in ((True, 1), (False, 1), (0, True), (0, False), (True, True), (False, False)):
            self.assertRaises(NoRange, told_range, BALE, begin, count)


class OwnTest(unittest.TestCase):
    def test_what_is_handed_in_stays(self):
        bale = list(BALE)
        signs, read = told_range(bale, 10, 100)
        self.assertEqual(bale, BALE)
        bale.clear()
        self.assertEqual(signs, TEXT[10:110])
        signs.append(5)
        signs[0] = 300
        self.assertEqual(told_range(BALE, 10, 100), (TEXT[10:110], 2))

    def test_no_signs_told_are_the_askers_own(self):
        told_range(BALE, 0, 0)[0].append(1)
        self.assertEqual(told_range(BALE, 0, 0), ([], 0))


if __name__ == "__main__":
    unittest.main()
