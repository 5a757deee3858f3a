import unittest

from balepress.bits import BitReader, BitRow
from balepress.errors import BadBits, BadRow, NoBits
from tests.reckoned import bytes_of, signs_of
from tests.samples import no_rows, no_whole_numbers

SIZES = list(range(25))
BYTES = [place * 73 % 256 for place in range(40)]


def many_puts():
    puts = []
    for size in SIZES + SIZES[::-1] + [1] * 20 + [3, 7, 24, 24, 0, 5]:
        puts += [(0, size), ((1 << size) - 1, size), (len(puts) * 7654321 % (1 << size), size)]
    return puts


def bad_sizes():
    return [-1, -24, 25, 26, 100, 10 ** 5000] + no_whole_numbers()


def state(reader):
    return reader.place(), reader.left(), reader.at_end()


class BitRowTest(unittest.TestCase):
    def test_no_puts(self):
        bits = BitRow()
        self.assertEqual(bits.many(), 0)
        self.assertEqual(bits.row(), [])

    def test_by_hand(self):
        bits = BitRow()
        self.assertIsNone(bits.put(5, 3))
        self.assertEqual((bits.many(), bits.row()), (3, [160]))
        bits.put(0, 0)
        self.assertEqual((bits.many(), bits.row()), (3, [160]))
        bits.put(number=1, size=5)
        self.assertEqual((bits.many(), bits.row()), (8, [161]))
        bits.put(0x123456, 24)
        self.assertEqual((bits.many(), bits.row()), (32, [161, 0x12, 0x34, 0x56]))
        bits.put(1, 1)
        self.assertEqual((bits.many(), bits.row()), (33, [161, 0x12, 0x34, 0x56, 128]))

    def test_one_put_of_each_size(self):
        for size in SIZES:
            for number in {0, 1 << size >> 1, (1 << size) - 1}:
                bits = BitRow()
                bits.put(number, size)
                self.assertEqual(bits.many(), size)
                self.assertEqual(bits.row(), bytes_of(signs_of(number, size)), (number, size))

    def test_each_pair_of_sizes(self):
        for first in SIZES:
            for second in SIZES:
                bits = BitRow()
                bits.put((1 << first) - 1, first)
                bits.put(0, second)
                bits.put((1 << second) - 1, second)
                signs = "1" * first + "0" * second + "1" * second
                self.assertEqual((bits.many(), bits.row()), (len(signs), bytes_of(signs)), (first, second))

    def test_behind_each_put(self):
        bits, signs = BitRow(), ""
        for number, size in many_puts():
            self.assertIsNone(bits.put(number, size))
            signs += signs_of(number, size)
            self.assertEqual(bits.many(), len(signs))
            self.assertEqual(bits.row(), bytes_of(signs))

    def test_bad_puts_put_nothing(self):
        bits = BitRow()
        good = (0, [])
        for ahead in ((5, 3), (200, 8), (1, 2)):
            bits.put(*ahead)
            good = (bits.many(), bits.row())
            for place, size in enumerate(bad_sizes()):
                for number in (0, 1, -1, None):
                    with self.subTest(place=place, number=number):
                        self.assertRaises(BadBits, bits.put, number, size)
                        self.assertEqual((bits.many(), bits.row()), good)
            for size in SIZES:
                numbers = [-1, -(1 << size), 1 << size, (1 << size) + 1, 10 ** 5000, -10 ** 5000]
                for place, number in enumerate(numbers + no_whole_numbers()):
                    with self.subTest(place=place, size=size):
                        self.assertRaises(BadBits, bits.put, number, size)
                        self.assertEqual((bits.many(), bits.row()), good)
        bits.put(3, 3)
        self.assertEqual((bits.many(), bits.row()), (16, bytes_of("101" + "11001000" + "01" + "011")))

    def test_told_row_stays(self):
        for ahead in ((5, 3), (200, 8)):
            bits = BitRow()
            bits.put(*ahead)
            told = bits.row()
            kept = list(told)
            bits.put(31, 5)
            bits.put(255, 8)
            self.assertEqual(told, kept)

    def test_changed_told_row_changes_nothing(self):
        for ahead in ((5, 3), (200, 8), (1000, 12)):
            bits = BitRow()
            bits.put(*ahead)
            kept = bits.row()
            told = bits.row()
            told[0] = 77
            told.append(78)
            self.assertEqual((bits.many(), bits.row()), (ahead[1], kept))

    def test_rows_of_bits_stand_by_themselves(self):
        first, second = BitRow(), BitRow()
        first.put(255, 8)
        self.assertEqual((second.many(), second.row()), (0, []))


class BitReaderTest(unittest.TestCase):
    def test_no_bytes(self):
        reader = BitReader([])
        self.assertEqual(state(reader), (0, 0, True))
        self.assertEqual(reader.take(0), 0)
        self.assertRaises(NoBits, reader.take, 1)
        self.assertIsNone(reader.go(0))
        self.assertRaises(BadBits, reader.go, 1)

    def test_each_size_at_each_place(self):
        signs = "".join(signs_of(byte, 8) for byte in BYTES[:6])
        for place in range(49):
            for size in SIZES:
                reader = BitReader(BYTES[:6])
                reader.go(place)
                if place + size > 48:
                    self.assertRaises(NoBits, reader.take, size)
                    size = 0
                else:
                    self.assertEqual(reader.take(size), int("0" + signs[place:place + size], 2), (place, size))
                self.assertEqual(reader.place(), place + size)
                self.assertEqual(reader.left(), 48 - place - size)

    def test_what_was_put_is_taken(self):
        bits = BitRow()
        for number, size in many_puts():
            bits.put(number, size)
        reader, taken = BitReader(bits.row()), 0
        for number, size in many_puts():
            self.assertEqual(reader.take(size=size), number)
            taken += size
            self.assertEqual((reader.place(), reader.left()), (taken, 8 * len(bits.row()) - taken))
        self.assertIs(reader.at_end(), True)

    def test_no_bits_takes_nothing(self):
        for many in range(4):
            for place in range(8 * many + 1):
                reader = BitReader(BYTES[:many])
                reader.go(place)
                before = state(reader)
                for size in range(8 * many - place + 1, 25):
                    self.assertRaises(NoBits, reader.take, size)
                    self.assertEqual(state(reader), before)

    def test_bad_bits_ahead_of_no_bits(self):
        for many in (0, 1, 10):
            for place, size in enumerate(bad_sizes()):
                with self.subTest(many=many, place=place):
                    reader = BitReader(BYTES[:many])
                    reader.go(4 * many)
                    before = state(reader)
                    self.assertRaises(BadBits, reader.take, size)
                    self.assertEqual(state(reader), before)

    def test_go_to_each_place(self):
        signs = "".join(signs_of(byte, 8) for byte in BYTES)
        reader = BitReader(BYTES)
        for place in list(range(8 * len(BYTES) + 1)) + list(range(8 * len(BYTES), -1, -1)):
            self.assertIsNone(reader.go(place=place))
            self.assertEqual((reader.place(), reader.left()), (place, 8 * len(BYTES) - place))
            if reader.left() > 0:
                self.assertEqual(reader.take(1), int(signs[place]))

    def test_bad_places(self):
        for many in (0, 1, 5):
            reader = BitReader(BYTES[:many])
            reader.go(3 * many)
            before = state(reader)
            bad = [-1, -8, 8 * many + 1, 8 * many + 8, 10 ** 5000, -10 ** 5000] + no_whole_numbers()
            for place, thing in enumerate(bad):
                with self.subTest(many=many, place=place):
                    self.assertRaises(BadBits, reader.go, thing)
                    self.assertEqual(state(reader), before)

    def test_at_end_where_all_are_nought(self):
        for row in ([0], [255, 0], [0, 0, 0]):
            reader = BitReader(row)
            for left in range(8):
                reader.go(8 * len(row) - left)
                self.assertIs(reader.at_end(), True)
                self.assertEqual((reader.place(), reader.left()), (8 * len(row) - left, left))
            reader.go(8 * len(row) - 8)
            self.assertIs(reader.at_end(), False)

    def test_at_end_where_one_is_not(self):
        for one in range(8):
            for ahead in ([], [0], [255]):
                reader = BitReader(ahead + [1 << one])
                for left in range(9):
                    reader.go(8 * len(ahead) + 8 - left)
                    self.assertIs(reader.at_end(), left <= one and left < 8, (one, ahead, left))
                    self.assertEqual(reader.left(), left)

    def test_at_end_takes_no_heed_of_what_was_taken(self):
        reader = BitReader([248])
        self.assertEqual(reader.take(5), 31)
        self.assertIs(reader.at_end(), True)
        self.assertEqual(reader.take(3), 0)
        self.assertIs(reader.at_end(), True)

    def test_far_from_the_end(self):
        self.assertIs(BitReader([0, 0]).at_end(), False)
        self.assertIs(BitReader([0] * 50).at_end(), False)

    def test_no_rows(self):
        for place, row in enumerate(no_rows()):
            with self.subTest(place=place):
                self.assertRaises(BadRow, BitReader, row)

    def test_handed_row_may_be_changed_later(self):
        handed = [1, 2, 3]
        reader = BitReader(row=handed)
        handed[0] = 255
        handed.append(4)
        self.assertEqual(reader.left(), 24)
        self.assertRaises(BadBits, reader.go, 25)
        self.assertEqual(reader.take(24), 0x010203)
        del handed[:]
        reader.go(0)
        self.assertEqual(reader.take(8), 1)

    def test_handed_row_is_not_changed(self):
        handed = [1, 2, 3]
        reader = BitReader(handed)
        reader.take(13)
        reader.go(2)
        reader.at_end()
        self.assertEqual(handed, [1, 2, 3])

    def test_readers_stand_by_themselves(self):
        handed = [1, 2, 3]
        first, second = BitReader(handed), BitReader(handed)
        first.take(20)
        self.assertEqual(state(second), (0, 24, False))


if __name__ == "__main__":
    unittest.main()
