import itertools
import unittest

from balepress.errors import BadBody, BadHead, BadMark, BadRow, BadTail, Behind, Cut, PressError
from balepress.opening import Opener, opened
from tests.bales import (MARK, any_way_block, bale_with, copy_block, cut, filled, opened_by, text_by, texts, told_by,
                         turned)
from tests.faults import BALE, TEXT, Fault, faults, head_faults, place_of, row_with, tail_faults, told_ahead
from tests.reckoned import (bale_of, block_with, blocks_of, bytes_of, coded_bits, remainder, run_bits, table_bits,
                            tail_of, thing_told)
from tests.samples import no_rows, spread

SIZES = [[1], [2], [3], [64], [1, 68], [5, 0, 0, 11], [0, 200], [70, 1, 0], [13, 300]]


class OpenerCase(unittest.TestCase):
    def fed(self, opener, pieces):
        """The signs of all pieces, each told as a list."""
        text = []
        for piece in pieces:
            signs = opener.feed(piece)
            self.assertIs(type(signs), list)
            text += signs
        return text

    def is_over(self, opener):
        self.assertIs(opener.over(), True)
        self.assertIsNone(opener.finish())

    def is_not_over(self, opener):
        self.assertIs(opener.over(), False)
        self.assertRaises(Cut, opener.finish)

    def refused_behind(self, row, error, many):
        """Refused as soon as so many bytes are there, however they come, and not ahead of that."""
        for begin in sorted({0, 1, 2, 3, many // 2, many - 11, many - 4, many - 3, many - 2, many - 1}):
            if 0 <= begin < many:
                opener = Opener()
                opener.feed(row[:begin])
                for end in (many, many + 1, (many + len(row)) // 2, len(row)):
                    self.assertRaises(error, opener.feed, row[begin:max(end, many)])
                    self.assertIs(opener.over(), error is Behind and begin == many - 1)
                opener.feed(row[begin:many - 1])
                self.assertRaises(error, opener.feed, row[many - 1:many])
                self.assertIs(opener.over(), error is Behind)
        opener = Opener()
        for byte in row[:many - 1]:
            opener.feed([byte])
        self.assertRaises(error, opener.feed, [row[many - 1]])
        self.assertRaises(error, opened, row)
        self.assertRaises(error, opened, row[:many])


class GoodBaleTest(OpenerCase):
    def test_no_signs_by_hand(self):
        tail = [0, 0, remainder([0, 0], 8), 0, 0, 0, 0, 255, 255]
        check = remainder(tail, 16)
        bale = [184, 66, 1] + tail + [check // 256, check % 256]
        opener = Opener()
        self.assertEqual(opener.feed(row=bale), [])
        self.is_over(opener)
        self.assertEqual(opened(row=bale), [])

    def test_one_sign_by_hand(self):
        block = [0, 1, remainder([0, 1], 8), 6]
        check = remainder(block, 16)
        bale = [184, 66, 1] + block + [check // 256, check % 256]
        tail = [0, 0, remainder([0, 0], 8), 0, 0, 0, 1] + [remainder([6], 16) // 256, remainder([6], 16) % 256]
        check = remainder(tail, 16)
        self.assertEqual(opened(bale + tail + [check // 256, check % 256]), [6])

    def test_at_once(self):
        for text in texts():
            bale = bale_of(text)
            kept = list(bale)
            opener = Opener()
            self.is_not_over(opener)
            self.assertEqual(self.fed(opener, [bale]), text)
            self.is_over(opener)
            told = opened(bale)
            self.assertEqual(told, text)
            self.assertIs(type(told), list)
            self.assertEqual(bale, kept)

    def test_byte_by_byte(self):
        for text in texts():
            told_behind, place = {}, 3
            for begin, block in enumerate(blocks_of(text)):
                place += len(block)
                told_behind[place] = text[64 * begin:64 * begin + 64]
            opener = Opener()
            for many, byte in enumerate(bale_of(text), 1):
                self.is_not_over(opener)
                self.assertEqual(opener.feed([byte]), told_behind.get(many, []))
            self.assertEqual(many, place + 11)
            self.is_over(opener)

    def test_in_pieces(self):
        for text in texts():
            bale = bale_of(text)
            ends = [3]
            for block in blocks_of(text):
                ends.append(ends[-1] + len(block))
            for sizes in SIZES:
                opener, told, many = Opener(), [], 0
                for piece in cut(bale, sizes):
                    told += self.fed(opener, [piece])
                    many += len(piece)
                    self.assertEqual(told, text[:64 * (sum(end <= many for end in ends) - 1)] if many >= 3 else [])
                    self.assertIs(opener.over(), many == len(bale))
                self.assertEqual(told, text)
                self.is_over(opener)

    def test_in_two_at_each_place(self):
        for text in (spread(1, 130, 256), spread(2, 130, 3), [9] * 300):
            bale = bale_of(text)
            for place in range(len(bale) + 1):
                opener = Opener()
                self.assertEqual(self.fed(opener, [bale[:place], bale[place:]]), text)
                self.is_over(opener)

    def test_pieces_of_no_bytes(self):
        for text in ([], [5], spread(1, 65, 9)):
            opener, told = Opener(), []
            self.assertEqual(self.fed(opener, [[], []]), [])
            for byte in bale_of(text):
                self.assertEqual(opener.feed([]), [])
                told += opener.feed([byte])
                self.assertEqual(opener.feed([]), [])
            self.assertEqual(told, text)
            for step in range(3):
                self.assertEqual(opener.feed([]), [])
                self.is_over(opener)

    def test_finish_ahead_of_the_tail_changes_nothing(self):
        text, opener, told = spread(3, 70, 20), Opener(), []
        for byte in bale_of(text):
            self.assertRaises(Cut, opener.finish)
            self.assertRaises(Cut, opener.finish)
            told += opener.feed([byte])
        self.assertEqual(told, text)
        self.is_over(opener)
        self.is_over(opener)

    def test_two_beside_one_another(self):
        first, second = spread(1, 300, 5), spread(2, 280, 256)
        one, two, first_told, second_told = Opener(), Opener(), [], []
        pairs = itertools.zip_longest(cut(bale_of(first), [9]), cut(bale_of(second), [17]), fillvalue=[])
        for mine, other in pairs:
            first_told += one.feed(mine)
            self.assertRaises(PressError, one.feed, [3] * 90)
            second_told += two.feed(other)
        self.assertEqual(first_told, first)
        self.assertEqual(second_told, second)
        self.is_over(one)
        self.is_over(two)
        third = Opener()
        self.is_not_over(third)
        self.assertEqual(third.feed(bale_of([4])), [4])

    def test_one_over_and_one_not(self):
        one, two = Opener(), Opener()
        one.feed(bale_of([1]))
        self.is_over(one)
        self.is_not_over(two)
        self.assertEqual(two.feed(bale_of([2])), [2])


class AnyWayTest(OpenerCase):
    def test_each_way(self):
        for numbers in ([0] * 6, [1] * 6, [2] * 6, [3] * 6, [0, 1, 2, 3, 2, 1], [3, 2, 1, 0, 3, 2], [2, 3, 3, 2, 2, 3]):
            text = [7] * 70 + [8] * 66 + [7] * 184 + [9] * 20
            blocks = []
            for step, number in enumerate(numbers):
                begin = 64 * step
                blocks.append(any_way_block(number, text[begin:begin + 64], text[begin - begin % 256:begin]))
            bale = bale_with(blocks, text)
            self.assertEqual([block[0] // 64 for block in blocks], numbers)
            self.assertEqual(opened(bale), text)
            for sizes in SIZES:
                self.assertEqual(self.fed(Opener(), cut(bale, sizes)), text)

    def beginnings(self):
        """One to five whole blocks, their text, and the window of the next one."""
        for many in range(1, 6):
            text = spread(many, 64 * many, 256)
            yield blocks_of(text), text, text[len(text) // 256 * 256:]

    def both_ways(self, pieces):
        """Blocks that tell these pieces of 64 signs by copies and by shares."""
        things = {thing_told(piece) for piece in pieces}
        table = [6 if thing in things else 0 for thing in range(272)]
        return [copy_block(pieces), block_with(3, 64, bytes_of(table_bits(table) + coded_bits(pieces, table)))]

    def test_a_window_reaches_over_the_group(self):
        for blocks, text, before in self.beginnings():
            for back in {1, 2, 63, 64, len(before) - 1, len(before)} & set(range(1, len(before) + 1)):
                pieces = filled(("copy", back, 3))
                more = text_by(pieces, before)
                for block in self.both_ways(pieces):
                    self.assertEqual(opened(bale_with(blocks + [block], text + more)), text + more)

    def test_a_window_reaches_no_farther(self):
        for blocks, text, before in self.beginnings():
            for back in sorted({0, len(before) + 1, len(before) + 2, 255}):
                for block in self.both_ways(filled(("copy", back, 3))):
                    bale = MARK + sum(blocks, []) + block
                    opener = Opener()
                    self.assertEqual(opener.feed(bale[:-1]), text)
                    self.assertRaises(BadBody, opener.feed, bale[-1:])
                    self.assertRaises(BadBody, opened, bale)

    def test_a_far_copy_of_the_third_block_back(self):
        first = spread(1, 64, 256)
        text = first + spread(2, 64, 256) + spread(3, 64, 256) + first[:60]
        bale = bale_of(text)
        self.assertEqual(blocks_of(text)[3][0] // 64, 2)
        self.assertEqual(opened(bale), text)


class RefusalTest(OpenerCase):
    def test_each_as_soon_as_it_can_be_told(self):
        for number, fault in enumerate(faults()):
            with self.subTest(number=number):
                row = row_with(fault)
                self.refused_behind(row, fault.error, place_of(fault.part) + fault.many)
                self.assertEqual(opened_by(row), fault.error)

    def test_each_wrong_byte_of_the_mark(self):
        for place in range(3):
            for byte in set(range(256)) - {MARK[place]}:
                opener = Opener()
                self.assertRaises(BadMark, opener.feed, MARK[:place] + [byte])
                for good in MARK[:place]:
                    opener.feed([good])
                self.assertRaises(BadMark, opener.feed, [byte])
                self.assertRaises(BadMark, opener.feed, [byte] + MARK)
                self.assertRaises(BadMark, opened, MARK[:place] + [byte])

    def test_the_first_of_two(self):
        some = faults()[::3]
        for first in some:
            for second in some:
                if first.part < second.part:
                    row = row_with(first, second)
                    self.assertRaises(first.error, Opener().feed, row)
                    self.assertRaises(first.error, opened, row)

    def test_the_first_of_two_in_one_block(self):
        for part in (1, 2, 3):
            for fault in head_faults(part):
                row = turned(fault.row, len(fault.row) - 1)
                self.assertRaises(BadHead, opened, row_with(Fault(part, row, BadHead, 3)))
        for fault in tail_faults():
            for more in ([0], [1] * 20, MARK):
                self.assertRaises(fault.error, opened, row_with(fault) + more)

    def test_behind_a_short_block(self):
        for count in (1, 2, 63):
            for after in (1, 63, 64):
                for whole in (0, 1, 3, 4):
                    text = [5] * (64 * whole + count)
                    bale = MARK + sum(blocks_of(text), [])
                    block = block_with(1, after, bytes_of(run_bits([5] * after)))
                    opener = Opener()
                    self.assertEqual(opener.feed(bale + block[:2]), text)
                    self.assertRaises(BadHead, opener.feed, block[2:])
                    self.assertRaises(BadHead, opener.feed, block[2:3])
                    self.assertRaises(BadHead, opened, bale + block + tail_of(text + [5] * after))
                    opener = Opener()
                    self.assertEqual(opener.feed(bale), text)
                    self.assertRaises(BadHead, opener.feed, block)
                    self.assertEqual(opener.feed(tail_of(text)), [])
                    self.is_over(opener)

    def test_behind_the_tail(self):
        for text in ([], [5], spread(1, 64, 256), spread(2, 70, 3)):
            opener = Opener()
            self.assertEqual(opener.feed(bale_of(text)), text)
            for more in ([0], [184], [184, 66, 1], bale_of(text), tail_of(text), [0, 0], [255] * 300):
                self.assertRaises(Behind, opener.feed, more)
                self.is_over(opener)
                self.assertEqual(opener.feed([]), [])
                self.assertRaises(Behind, opened, bale_of(text) + more)
            fresh = Opener()
            self.assertRaises(Behind, fresh.feed, bale_of(text) + [0])
            self.is_not_over(fresh)
            self.assertEqual(fresh.feed(bale_of(text)), text)

    def test_cut(self):
        for text in texts([0, 1, 64, 65, 130]):
            bale = bale_of(text)
            for many in range(len(bale)):
                self.assertRaises(Cut, opened, bale[:many])
        for row in ([], [184], [184, 66], [184, 66, 1], [184, 66, 1, 0], [184, 66, 1, 0, 0]):
            self.assertRaises(Cut, opened, row)

    def test_a_refusal_ahead_of_cut(self):
        for fault in faults():
            end = place_of(fault.part) + fault.many
            self.assertRaises(fault.error, opened, row_with(fault)[:end])
            if fault.error != Behind:
                self.assertRaises(Cut, opened, row_with(fault)[:end - 1])

    def test_counts_that_differ_by_little(self):
        for text in ([], [0], [0] * 64, [0] * 65, [0] * 256):
            for other in ([], [0], [0] * 63, [0] * 64, [0] * 65, [0] * 255, [0] * 256, [1], [1] * 64):
                bale = MARK + sum(blocks_of(text), []) + tail_of(other)
                if other == text:
                    self.assertEqual(opened(bale), text)
                else:
                    self.assertRaises(BadTail, opened, bale)


class NoRowTest(OpenerCase):
    def things(self):
        bale = bale_of(TEXT)
        wrong = [bale[:many] + [thing] for many in (0, 1, 3, 5, 90, len(bale)) for thing in (256, -1, True, None, 1.0)]
        return no_rows() + wrong + [tuple(bale), bytes(bale), "".join(map(chr, bale)), [bale], [0, 256], [1, 2, None]]

    def test_no_row_ahead_of_all_else(self):
        for place, thing in enumerate(self.things()):
            with self.subTest(place=place):
                self.assertRaises(BadRow, opened, thing)
                self.assertRaises(BadRow, Opener().feed, thing)

    def test_at_each_stage(self):
        bale = bale_of(TEXT)
        for many in (0, 1, 2, 3, 4, 50, 72, 100, len(bale) - 5, len(bale)):
            opener, told = Opener(), []
            told += opener.feed(bale[:many])
            for place, thing in enumerate(self.things()):
                with self.subTest(many=many, place=place):
                    self.assertRaises(BadRow, opener.feed, thing)
            self.assertIs(opener.over(), many == len(bale))
            self.assertEqual(told + opener.feed(bale[many:]), TEXT)
            self.is_over(opener)


class MendedTest(OpenerCase):
    def goes_on(self, opener, begin, sizes):
        """The rest of the good bale is told as if nothing had been refused."""
        told = told_ahead(begin)
        for piece in cut(BALE[begin:], sizes):
            signs = opener.feed(piece)
            begin += len(piece)
            self.assertEqual(told + signs, told_ahead(begin))
            told = told + signs
        self.assertEqual(told, TEXT)
        self.is_over(opener)

    def test_a_refused_feeding_takes_nothing(self):
        for number, fault in enumerate(faults()):
            row = row_with(fault)
            same = place_of(fault.part)
            for begin in {0, 2, 3, same // 2, max(0, same - 1), same}:
                if begin > same:
                    continue
                with self.subTest(number=number, begin=begin):
                    opener = Opener()
                    opener.feed(BALE[:begin])
                    self.assertRaises(fault.error, opener.feed, row[begin:])
                    self.assertRaises(fault.error, opener.feed, row[begin:])
                    self.goes_on(opener, begin, [[500], [1], [64, 3], [7, 0]][number % 4])

    def test_within_a_part(self):
        for place in range(len(BALE)):
            wrong = turned(BALE, place)
            for begin in {place, max(0, place - 1), max(0, place - 3), max(0, place - 40)}:
                opener = Opener()
                opener.feed(BALE[:begin])
                self.assertRaises(PressError, opener.feed, wrong[begin:])
                self.assertEqual(opener.over(), False)
                told = opener.feed(BALE[begin:])
                self.assertEqual(told_ahead(begin) + told, TEXT)
                self.is_over(opener)

    def test_refused_over_and_over(self):
        opener, told = Opener(), []
        wrong = [fault for fault in faults() if fault.part < 5]
        for place, byte in enumerate(BALE):
            for fault in wrong[place % 7::31]:
                row = row_with(fault)
                if place <= place_of(fault.part):
                    self.assertRaises(fault.error, opener.feed, row[place:])
            told += opener.feed([byte])
        self.assertEqual(told, TEXT)
        self.is_over(opener)

    def test_another_bale_behind_a_refusal(self):
        opener = Opener()
        self.assertRaises(Behind, opener.feed, bale_of([1] * 70) + [0])
        self.assertRaises(BadMark, opener.feed, [5])
        self.assertRaises(BadRow, opener.feed, None)
        self.assertEqual(opener.feed(bale_of([2] * 300)), [2] * 300)
        self.is_over(opener)

    def test_any_pieces_of_wrong_bales(self):
        """Held against a second reckoning, with wrong bytes here and there that are mended when they are refused."""
        refused = 0
        for seed in range(60):
            text = spread(seed, spread(seed, 1, 330)[0], (3, 256, 20)[seed % 3])
            bale, opener, done, told = bale_of(text), Opener(), 0, []
            steps = iter(spread(seed, 4000, 1000))
            while done < len(bale):
                piece = bale[done:done + next(steps) % 90]
                wrong = turned(piece, next(steps) % len(piece), 1 << next(steps) % 8) if piece else []
                if next(steps) % 3 == 0:
                    wrong = piece
                signs, error, over = told_by(bale[:done] + wrong)
                if error is None and wrong != piece:
                    # Not to be told yet: these bytes would be taken, so they aren't handed in.
                    continue
                if error is None:
                    told += opener.feed(wrong)
                    self.assertEqual(told, signs)
                    done += len(piece)
                else:
                    self.assertRaises(error, opener.feed, wrong)
                    refused += 1
                self.assertIs(opener.over(), done == len(bale))
            self.assertEqual(told, text)
        self.assertGreater(refused, 60)


class OwnTest(OpenerCase):
    def test_what_is_handed_in_may_be_changed(self):
        text = spread(1, 200, 9)
        for sizes in SIZES:
            opener, told = Opener(), []
            for piece in cut(bale_of(text), sizes):
                kept = list(piece)
                told += opener.feed(piece)
                self.assertEqual(piece, kept)
                piece[:] = [1] * 80
                piece.append(256)
            self.assertEqual(told, text)
            self.is_over(opener)

    def test_what_was_refused_may_be_changed(self):
        opener, row = Opener(), bale_of([6] * 70)
        row[-1] ^= 1
        kept = list(row)
        self.assertRaises(BadTail, opener.feed, row)
        self.assertEqual(row, kept)
        row[-1] ^= 1
        self.assertEqual(opener.feed(row), [6] * 70)

    def test_what_was_told_stays_and_may_be_changed(self):
        text, opener, rows = spread(2, 300, 3), Opener(), []
        for piece in cut(bale_of(text), [30]):
            rows.append(opener.feed(piece))
        self.assertEqual(sum(rows, []), text)
        opener, told = Opener(), []
        for piece in cut(bale_of(text), [30]):
            signs = opener.feed(piece)
            told += signs
            signs[:] = [200] * 100
        self.assertEqual(told, text)
        self.is_over(opener)

    def test_opened_told_stays(self):
        bale = bale_of([1, 2, 3])
        text = opened(bale)
        bale.clear()
        self.assertEqual(text, [1, 2, 3])
        text.append(4)
        self.assertEqual(opened(bale_of([1, 2, 3])), [1, 2, 3])
        empty = Opener().feed([])
        empty.append(1)
        self.assertEqual(Opener().feed([]), [])


if __name__ == "__main__":
    unittest.main()
