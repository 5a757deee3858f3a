import unittest

from balepress.blocks import Head, head_of, put_block, take_block
from balepress.errors import BadBody, BadCheck, BadHead, BadRow
from balepress.ways import CopyWay, RawWay, RunWay, ShareWay
from tests.reckoned import (block_of, block_with, body_bits, body_read, bytes_of, checked, coded_bits, copy_bits,
                            head_bytes, raw_bits, remainder, run_bits, table_bits, tail_of)
from tests.samples import no_rows, spread
from tests.test_ways import cases, no_texts, no_windows, texts


def heads():
    return [(way, count, inside) for way in range(4) for count in range(1, 65) for inside in (1, 2, 31, 63, 64)]


def blocks_of_each_way():
    """Blocks that the program would not tell are among them: any way is taken whose body has room."""
    told = []
    for text, before in cases()[::2]:
        for number in range(4):
            body = bytes_of(body_bits(number, text, before))
            if len(body) <= 64:
                told.append((number, text, before, block_with(number, len(text), body)))
    return told


def with_turned_bit(row, place):
    turned = list(row)
    turned[place // 8] ^= 128 >> place % 8
    return turned


class HeadTest(unittest.TestCase):
    def test_values(self):
        for way, count, inside in heads():
            head = Head(way, count, inside)
            self.assertEqual((head.way, head.count, head.inside), (way, count, inside))

    def test_row(self):
        for way, count, inside in heads():
            first = 64 * way + count - 1
            row = Head(way, count, inside).row()
            self.assertEqual(row, [first, inside, remainder([first, inside], 8)])
            self.assertIs(type(row), list)

    def test_by_hand(self):
        self.assertEqual(Head(0, 1, 1).row()[:2], [0, 1])
        self.assertEqual(Head(3, 64, 64).row()[:2], [255, 64])
        self.assertEqual(Head(way=2, count=5, inside=7).row()[:2], [132, 7])

    def test_a_row_told_is_the_askers_own(self):
        head = Head(1, 2, 3)
        row = head.row()
        kept = list(row)
        row[0] = 99
        row.append(5)
        self.assertEqual(head.row(), kept)
        self.assertEqual((head.way, head.count, head.inside), (1, 2, 3))


class HeadOfTest(unittest.TestCase):
    def test_each_head(self):
        for way, count, inside in heads() + [(way, 9, inside) for way in range(4) for inside in range(1, 65)]:
            row = head_bytes(way, count, inside)
            head = head_of(row)
            self.assertIsInstance(head, Head)
            self.assertEqual((head.way, head.count, head.inside), (way, count, inside))
            self.assertEqual(head.row(), row)
        self.assertEqual(head_of(row=head_bytes(2, 5, 7)).count, 5)

    def test_kinds_of_values(self):
        head = head_of(head_bytes(1, 2, 1))
        self.assertEqual([type(head.way), type(head.count), type(head.inside)], [int, int, int])

    def test_a_tail(self):
        self.assertIsNone(head_of([0, 0, remainder([0, 0], 8)]))

    def test_insides_of_no_body(self):
        for first in range(256):
            for inside in [0] + list(range(65, 256, 10)) + [255]:
                if (first, inside) != (0, 0):
                    self.assertRaises(BadHead, head_of, [first, inside, remainder([first, inside], 8)])
        for inside in range(65, 256):
            self.assertRaises(BadHead, head_of, [0, inside, remainder([0, inside], 8)])

    def test_wrong_checks(self):
        for first, inside in [(0, 0), (0, 1), (255, 64), (130, 20), (0, 65), (1, 0), (255, 255)]:
            right = remainder([first, inside], 8)
            for check in range(256):
                if check != right:
                    self.assertRaises(BadHead, head_of, [first, inside, check])

    def test_each_turned_bit(self):
        for way, count, inside in heads()[::17]:
            for place in range(24):
                self.assertRaises(BadHead, head_of, with_turned_bit(head_bytes(way, count, inside), place))
        for place in range(24):
            self.assertRaises(BadHead, head_of, with_turned_bit([0, 0, remainder([0, 0], 8)], place))

    def test_no_row_of_three(self):
        right = head_bytes(1, 2, 3)
        things = no_rows() + [[], [1], [0, 0], right[:2], right + [0], right * 2, tuple(right), bytes(right),
                              [False, False, remainder([0, 0], 8)]]
        for place, thing in enumerate(things):
            with self.subTest(place=place):
                self.assertRaises(BadRow, head_of, thing)

    def test_what_is_handed_in_stays(self):
        row = head_bytes(1, 2, 3)
        kept = list(row)
        head = head_of(row)
        self.assertEqual(row, kept)
        row[0] = 0
        row.clear()
        self.assertEqual(head.row(), kept)


class PutBlockTest(unittest.TestCase):
    def test_by_hand(self):
        block = put_block([6])
        self.assertEqual(block, checked([0, 1, remainder([0, 1], 8), 6]))
        block = put_block([9] * 64)
        self.assertEqual(block[:2], [64 + 63, 2])
        self.assertEqual(block[3:5], bytes_of("111111" "00001001"))
        self.assertEqual(len(block), 7)
        block = put_block(text=[1, 2, 3], before=[1, 2, 3])
        self.assertEqual(block, checked(head_bytes(2, 3, 2) + bytes_of("1" "00000011" "0000")))

    def test_byte_by_byte(self):
        for text, before in cases():
            kept = list(text), None if before is None else list(before)
            block = put_block(text, before)
            self.assertEqual(block, block_of(text, before))
            self.assertIs(type(block), list)
            self.assertEqual((text, before), kept)
            self.assertLessEqual(len(block), len(text) + 5)

    def test_all_four_ways_come(self):
        self.assertEqual({put_block(text, before)[0] // 64 for text, before in cases()}, {0, 1, 2, 3})

    def test_before_left_out(self):
        for text in texts():
            block = put_block(text)
            self.assertEqual(put_block(text, None), block)
            self.assertEqual(put_block(text, []), block)

    def test_refusals(self):
        for place, thing in enumerate(no_texts()):
            with self.subTest(place=place):
                self.assertRaises(BadRow, put_block, thing)
                self.assertRaises(BadRow, put_block, thing, [1] * 192)
        for place, thing in enumerate(no_windows()):
            with self.subTest(place=place):
                self.assertRaises(BadRow, put_block, [1, 2, 3], thing)

    def test_what_was_told_stays(self):
        text, before = [1, 2, 3, 1, 2], [3, 1, 2]
        block = put_block(text, before)
        kept = list(block)
        text[0] = before[0] = 9
        self.assertEqual(block, kept)
        block[3] = 0
        block.append(1)
        self.assertEqual(put_block([1, 2, 3, 1, 2], [3, 1, 2]), kept)


class TakeBlockTest(unittest.TestCase):
    def test_what_was_put(self):
        for text, before in cases():
            told = take_block(put_block(text, before), before)
            self.assertEqual(told, text)
            self.assertIs(type(told), list)

    def test_each_way(self):
        seen = set()
        for number, text, before, block in blocks_of_each_way():
            kept = list(block), None if before is None else list(before)
            self.assertEqual(take_block(block, before), text)
            self.assertEqual((block, before), kept)
            seen.add((number, len(text)))
        for number in range(4):
            self.assertIn((number, 64), seen)
            self.assertIn((number, 1), seen)

    def test_any_pieces(self):
        pieces = [("sign", 7), ("sign", 7), ("copy", 2, 3), ("copy", 193, 3)]
        body = bytes_of(copy_bits(pieces))
        self.assertEqual(take_block(block_with(2, 8, body), [5] * 192), [7] * 5 + [5] * 3)
        table = [0] * 7 + [3] + [0] * 248 + [4] + [0] * 15
        body = bytes_of(table_bits(table) + coded_bits(pieces, table))
        self.assertEqual(take_block(block_with(3, 8, body), [5] * 192), [7] * 5 + [5] * 3)

    def test_before_left_out(self):
        for text in texts():
            block = put_block(text)
            self.assertEqual(take_block(block), text)
            self.assertEqual(take_block(block, None), text)
            self.assertEqual(take_block(block, []), text)
        self.assertEqual(take_block(row=put_block([4], [4]), before=[4]), [4])

    def test_what_was_handed_in_and_told_is_free(self):
        for way in (RawWay, RunWay, CopyWay, ShareWay):
            text, before = [8, 8, 8, 8], [8, 8, 8]
            body = bytes_of(body_bits(way().number(), text, before))
            block = block_with(way().number(), 4, body)
            told = take_block(block, before)
            told[0] = 1
            told.append(2)
            self.assertEqual(before, [8, 8, 8])
            again = take_block(block, before)
            block[0] = before[0] = 3
            block.clear()
            before.clear()
            self.assertEqual(again, text)


class TakeBlockRefusalTest(unittest.TestCase):
    def test_no_row(self):
        for place, thing in enumerate(no_rows()):
            with self.subTest(place=place):
                self.assertRaises(BadRow, take_block, thing)
                self.assertRaises(BadRow, take_block, thing, [1])

    def test_no_window_ahead_of_all_else(self):
        good = put_block([1, 2, 3])
        bad_check = good[:-1] + [good[-1] ^ 1]
        bad_body = block_with(1, 3, bytes_of(run_bits([7] * 4)))
        for place, thing in enumerate(no_windows()):
            with self.subTest(place=place):
                for row in (good, [], [1], [1, 2, 3], tail_of([]), good + [0], bad_check, bad_body):
                    self.assertRaises(BadRow, take_block, row, thing)

    def test_fewer_than_three_bytes(self):
        good = put_block([1, 2, 3])
        for many in (0, 1, 2):
            self.assertRaises(BadHead, take_block, good[:many])
        self.assertRaises(BadHead, take_block, [0, 0])

    def test_a_tail(self):
        for row in (tail_of([]), tail_of([1, 2, 3]), tail_of([])[:3], tail_of([])[:5], checked(tail_of([])[:3])):
            self.assertRaises(BadHead, take_block, row)

    def test_no_head(self):
        for first, inside in [(0, 65), (1, 0), (255, 255), (64, 128)]:
            row = checked([first, inside, remainder([first, inside], 8)] + [0] * inside)
            self.assertRaises(BadHead, take_block, row)
        for text, before in cases()[::9]:
            block = block_of(text, before)
            for place in range(24):
                self.assertRaises(BadHead, take_block, with_turned_bit(block, place), before)
                turned = with_turned_bit(block, place)
                self.assertRaises(BadHead, take_block, checked(turned[:-2]), before)

    def test_another_length(self):
        for text, before in cases()[::9]:
            block = block_of(text, before)
            for many in range(3, len(block)):
                self.assertRaises(BadHead, take_block, block[:many], before)
                if many > 4:
                    self.assertRaises(BadHead, take_block, checked(block[:many - 2]), before)
            for more in ([0], [0, 0], [255] * 9, block):
                self.assertRaises(BadHead, take_block, block + more, before)
                self.assertRaises(BadHead, take_block, checked(block[:-2] + more), before)

    def test_each_turned_bit_behind_the_head(self):
        for number, text, before, block in blocks_of_each_way()[::5]:
            for place in range(24, 8 * len(block)):
                self.assertRaises(BadCheck, take_block, with_turned_bit(block, place), before)

    def test_check_ahead_of_body(self):
        for body in (bytes_of(run_bits([7] * 9)), bytes_of(run_bits([7])), [255] * 64, [0]):
            block = block_with(1, 3, body)
            self.assertRaises(BadBody, take_block, block)
            for place in range(24, 8 * len(block)):
                self.assertRaises(BadCheck, take_block, with_turned_bit(block, place))

    def held(self, number, count, body, before):
        """Told, or refused, as a second way of reading finds; whether it was told."""
        wanted, taken = body_read(number, raw_bits(body), count, before)
        block = block_with(number, count, body)
        rest = raw_bits(body)[taken:]
        if isinstance(wanted, list) and len(rest) < 8 and "1" not in rest:
            self.assertEqual(take_block(block, before), wanted)
            return True
        self.assertRaises(BadBody, take_block, block, before)
        return False

    def test_too_few_and_too_many_signs(self):
        refused = 0
        for number, text, before, block in blocks_of_each_way()[::3]:
            counts = {len(text) - 1, len(text) + 1, 1, 64} - {0, 65, len(text)}
            refused += sum(not self.held(number, count, block[3:-2], before) for count in sorted(counts))
        self.assertGreater(refused, 100)
        for count in (1, 2, 4, 5, 64):
            self.assertRaises(BadBody, take_block, block_with(0, count, [1, 2, 3]))
            self.assertRaises(BadBody, take_block, block_with(1, count, bytes_of(run_bits([1, 1, 1]))))
            self.assertRaises(BadBody, take_block, block_with(2, count, bytes_of(copy_bits([("copy", 1, 3)]))), [1])

    def test_a_copy_too_far(self):
        for back, before in ((0, [1] * 192), (1, None), (1, []), (6, [1] * 5), (193, [1] * 192), (255, [1] * 192)):
            pieces = [("copy", back, 3)]
            self.assertRaises(BadBody, take_block, block_with(2, 3, bytes_of(copy_bits(pieces))), before)
            table = [0] * 256 + [1] + [0] * 15
            body = bytes_of(table_bits(table) + coded_bits(pieces, table))
            self.assertRaises(BadBody, take_block, block_with(3, 3, body), before)

    def test_no_table_lengths_or_code(self):
        table = [1] + [0] * 271
        for signs in ("111111111" * 5, "111111111" * 4 + "111000101", table_bits([0] * 272),
                      table_bits([1] * 272), table_bits(table) + "1"):
            self.assertRaises(BadBody, take_block, block_with(3, 1, bytes_of(signs)))
        self.assertEqual(take_block(block_with(3, 1, bytes_of(table_bits(table) + "0"))), [0])

    def test_a_whole_byte_more(self):
        for number, text, before, block in blocks_of_each_way():
            body = block[3:-2]
            for more in ([0], [255], [0, 0], [1]):
                if len(body + more) <= 64:
                    self.assertRaises(BadBody, take_block, block_with(number, len(text), body + more), before)

    def test_a_last_byte_with_more_than_noughts(self):
        seen = 0
        for number, text, before, block in blocks_of_each_way():
            signs = body_bits(number, text, before)
            for place in range(len(signs), len(signs) + -len(signs) % 8):
                body = bytes_of(signs + "0" * (place - len(signs)) + "1")
                self.assertRaises(BadBody, take_block, block_with(number, len(text), body), before)
                seen += 1
        self.assertGreater(seen, 100)

    def test_any_bodies(self):
        seen = []
        for seed, (number, text, before, block) in enumerate(blocks_of_each_way()):
            for place in spread(seed, 6, 8 * (len(block) - 5)):
                seen.append(self.held(number, len(text), with_turned_bit(block[3:-2], place), before))
        self.assertGreater(seen.count(True), 50)
        self.assertGreater(seen.count(False), 50)

    def test_eight_noughts_behind_the_signs(self):
        self.assertEqual(take_block(block_with(0, 2, [9, 9])), [9, 9])
        self.assertRaises(BadBody, take_block, block_with(0, 2, [9, 9, 0]))
        run = run_bits([9] * 3)
        self.assertEqual(take_block(block_with(1, 3, bytes_of(run))), [9] * 3)
        self.assertRaises(BadBody, take_block, block_with(1, 3, bytes_of(run + "00" + "00000000")))


if __name__ == "__main__":
    unittest.main()
