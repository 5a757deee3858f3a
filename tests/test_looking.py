import unittest

from balepress.errors import BadRow, BadTail, Behind, Cut
from balepress.looking import looked
from tests.bales import MARK, any_way_block, bale_with, looked_by, texts
from tests.faults import BALE, TEXT, faults, place_of, row_with
from tests.reckoned import bale_of, blocks_of, checked, tail_of
from tests.samples import no_rows, spread
from tests.test_blocks import with_turned_bit


class LookedTest(unittest.TestCase):
    def test_no_signs(self):
        self.assertEqual(looked(bale_of([])), [])
        self.assertIs(type(looked(bale_of([]))), list)

    def test_by_hand(self):
        self.assertEqual(looked(row=bale_of([6])), [(3, 0, 1, 6)])
        self.assertEqual(looked(bale_of([9] * 64)), [(3, 1, 64, 7)])
        self.assertEqual(looked(bale_of([9] * 130)), [(3, 1, 64, 7), (10, 1, 64, 7), (17, 1, 2, 7)])
        part = [place * 37 % 256 for place in range(64)]
        told = looked(bale_of(part * 5))
        self.assertEqual([way for place, way, count, size in told], [0, 2, 2, 2, 0])
        self.assertEqual(told[1][:3], (72, 2, 64))
        self.assertEqual(told[1][3], 5 + (4 * 13 + 7) // 8)

    def test_each_block(self):
        seen = set()
        for text in texts():
            bale = bale_of(text)
            kept = list(bale)
            told, place = [], 3
            for number, block in enumerate(blocks_of(text)):
                told.append((place, block[0] // 64, len(text[64 * number:64 * number + 64]), len(block)))
                place += len(block)
            self.assertEqual(looked(bale), told)
            self.assertEqual(looked_by(bale), told)
            self.assertEqual(bale, kept)
            seen |= {way for place, way, count, size in told}
        self.assertEqual(seen, {0, 1, 2, 3})

    def test_kinds(self):
        for entry in looked(bale_of(TEXT)):
            self.assertIs(type(entry), tuple)
            self.assertEqual([type(number) for number in entry], [int] * 4)

    def test_ways_that_are_not_the_best(self):
        text = [7] * 64 * 5
        blocks = []
        for number in (3, 2, 1, 0, 3):
            begin = 64 * len(blocks)
            blocks.append(any_way_block(number, text[begin:begin + 64], text[begin - begin % 256:begin]))
        told = looked(bale_with(blocks, text))
        self.assertEqual([(way, count, size) for place, way, count, size in told],
                         [(number, 64, len(block)) for number, block in zip((3, 2, 1, 0, 3), blocks)])

    def test_refusals_as_of_opened(self):
        for number, fault in enumerate(faults()):
            with self.subTest(number=number):
                row = row_with(fault)
                self.assertRaises(fault.error, looked, row)
                self.assertRaises(fault.error, looked, row[:place_of(fault.part) + fault.many])

    def test_the_first_of_two(self):
        some = faults()[::5]
        for first in some:
            for second in some:
                if first.part < second.part:
                    self.assertRaises(first.error, looked, row_with(first, second))

    def test_cut(self):
        for many in range(len(BALE)):
            self.assertRaises(Cut, looked, BALE[:many])

    def test_the_check_of_all_signs(self):
        tail = tail_of(TEXT)
        for place in range(56, 72):
            wrong = checked(with_turned_bit(tail, place)[:-2])
            self.assertRaises(BadTail, looked, BALE[:-11] + wrong)

    def test_behind(self):
        for more in ([0], MARK, BALE):
            self.assertRaises(Behind, looked, BALE + more)

    def test_each_turned_bit(self):
        bale = bale_of([1, 2, 3] * 23)
        for place in range(8 * len(bale)):
            wrong = with_turned_bit(bale, place)
            self.assertRaises(looked_by(wrong), looked, wrong)

    def test_no_row(self):
        for place, thing in enumerate(no_rows() + [BALE + [256], BALE[:5] + [True], tuple(BALE), [0, -1]]):
            with self.subTest(place=place):
                self.assertRaises(BadRow, looked, thing)

    def test_what_was_told_stays(self):
        bale = bale_of(spread(1, 100, 256))
        told = looked(bale)
        kept = list(told)
        bale.clear()
        self.assertEqual(told, kept)
        told.append(5)
        self.assertEqual(looked(bale_of(spread(1, 100, 256))), kept)


if __name__ == "__main__":
    unittest.main()
