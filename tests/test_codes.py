import itertools
import unittest

from balepress.bits import BitReader, BitRow
from balepress.codes import CodeReader, codes_of
from balepress.errors import BadCode, BadLengths, NoBits
from balepress.shares import lengths_of
from tests.reckoned import codes_by_room, room, signs_of, sought
from tests.samples import no_lists, no_whole_numbers, spread

ROWS = [
    [1], [12], [0, 0, 5], [1, 1], [2, 1, 2], [3, 3, 3, 3, 3], [1, 2, 3, 4, 5, 6, 7, 8, 9, 10, 11, 12, 12],
    [12, 11, 10, 9, 8, 7, 6, 5, 4, 3, 2, 1], [0, 12, 0, 1, 0, 7], [2, 0, 12, 3, 0, 12, 2, 9], [9] * 300,
    [12] * 300, [0] * 299 + [4], [6] * 64 + [0] * 208, [3, 2, 3, 2, 0, 2], lengths_of(spread(1, 300, 5000), 12),
    lengths_of(spread(2, 60, 900)), lengths_of([1, 1, 2, 3, 5, 8, 13, 21, 34, 55, 89, 144, 233, 377, 610], 12),
]


def small_rows():
    rows = [list(row) for many in (1, 2, 3, 4) for row in itertools.product(range(5), repeat=many)]
    return [row for row in rows if any(row) and room(row) <= 4096]


def bad_lengths():
    things = no_lists() + [[], [0], [0] * 300, [1] + [0] * 300, [12] * 301, [9] * 301]
    for thing in [-1, -12, 13, 14, 10 ** 5000, -10 ** 5000] + no_whole_numbers():
        things += [[thing], [thing, 1, 2], [1, thing, 2], [1, 2, thing], [3] * 7 + [thing] + [0] * 200]
    for place in range(300):
        things += [[12] * place + [13] + [12] * (299 - place), [12] * place + [-1] + [12] * (299 - place)]
    things += [[1, 1, 12], [12, 1, 1], [1, 1, 1], [2, 2, 2, 2, 0, 12], [8] * 257, [6] * 65, [1, 2, 2, 3]]
    return things + [[1, 2, 3, 4, 5, 6, 7, 8, 9, 10, 11, 12, 12, 12]]


class CodesTest(unittest.TestCase):
    def test_by_hand(self):
        self.assertEqual(codes_of([2, 1, 0, 3, 3]), [(2, 2), (0, 1), None, (6, 3), (7, 3)])
        self.assertEqual(codes_of([3, 1]), [(4, 3), (0, 1)])
        self.assertEqual(codes_of([4, 0, 2, 2, 4]), [(8, 4), None, (0, 2), (1, 2), (9, 4)])
        self.assertEqual(codes_of(lengths=[1]), [(0, 1)])
        self.assertEqual(codes_of([0, 12, 0]), [None, (0, 12), None])

    def test_by_another_way(self):
        for lengths in ROWS + small_rows():
            kept = list(lengths)
            codes = codes_of(lengths)
            self.assertEqual(codes, codes_by_room(lengths))
            self.assertEqual(lengths, kept)
            self.assertIs(type(codes), list)
            self.assertTrue(all(pair is None or type(pair) is tuple for pair in codes))

    def test_no_code_begins_another(self):
        for lengths in ROWS:
            signs = [signs_of(*pair) for pair in codes_of(lengths) if pair is not None]
            for first, second in zip(sorted(signs), sorted(signs)[1:]):
                self.assertFalse(second.startswith(first), lengths)

    def test_each_length(self):
        for length in range(1, 13):
            self.assertEqual(codes_of([length]), [(0, length)])
            self.assertEqual(codes_of([length, length]), [(0, length), (1, length)])
        self.assertEqual(codes_of([8] * 256), [(place, 8) for place in range(256)])

    def test_told_list_is_the_askers_own(self):
        lengths = [2, 1, 2]
        told = codes_of(lengths)
        told[0] = None
        told.append(5)
        self.assertEqual(codes_of(lengths), [(2, 2), (0, 1), (3, 2)])
        again = codes_of(lengths)
        lengths[0] = 0
        self.assertEqual(again, [(2, 2), (0, 1), (3, 2)])

    def test_refusals(self):
        for place, thing in enumerate(bad_lengths()):
            with self.subTest(place=place):
                self.assertRaises(BadLengths, codes_of, thing)
                self.assertRaises(BadLengths, CodeReader, thing)

    def test_full_room_is_no_refusal(self):
        for lengths in ([1, 1], [2, 2, 2, 2], [8] * 256, [1, 2, 3, 4, 5, 6, 7, 8, 9, 10, 11, 12, 12]):
            self.assertEqual(room(lengths), 4096)
            self.assertEqual(len(codes_of(lengths)), len(lengths))


class CodeReaderTest(unittest.TestCase):
    def test_by_hand(self):
        codes = CodeReader(lengths=[2, 1, 0, 3, 3])
        reader = BitReader([0b10011111, 0b00000000])
        told = [(codes.thing(reader=reader), reader.place()) for step in range(5)]
        self.assertEqual(told, [(0, 2), (1, 3), (4, 6), (3, 9), (1, 10)])

    def test_reads_back_from_any_bit_on(self):
        for seed, lengths in enumerate(ROWS):
            codes, reader_of_codes = codes_of(lengths), CodeReader(lengths)
            coming = [place for place, pair in enumerate(codes) if pair is not None]
            things = coming + [coming[step % len(coming)] for step in spread(seed, 200, 10 ** 6)]
            for ahead in (0, 1, 2, 3, 5, 7, 8, 13):
                bits, places = BitRow(), [ahead]
                bits.put(2 ** ahead - 1, ahead)
                for thing in things:
                    bits.put(codes[thing][0], codes[thing][1])
                    places.append(bits.many())
                reader = BitReader(bits.row())
                reader.go(ahead)
                for thing, place in zip(things, places[1:]):
                    self.assertEqual(reader_of_codes.thing(reader), thing)
                    self.assertEqual(reader.place(), place)

    def hold(self, lengths, codes, row, place):
        signs = "".join(format(byte, "08b") for byte in row)[place:]
        wanted, size = sought(lengths, signs)
        reader = BitReader(row)
        reader.go(place)
        if wanted in (BadCode, NoBits):
            self.assertRaises(wanted, codes.thing, reader)
            size = 0
        else:
            self.assertEqual(codes.thing(reader), wanted, (lengths, signs))
        self.assertEqual((reader.place(), reader.left()), (place + size, len(signs) - size), (lengths, signs))

    def test_all_bits_of_small_rows(self):
        for lengths in small_rows()[::5] + [[1], [4], [3, 3, 3], [0, 2], [4, 4, 1]]:
            codes = CodeReader(lengths)
            for size in range(6):
                for number in range(2 ** size):
                    self.hold(lengths, codes, [number], 8 - size)
            for number in range(0, 256, 3):
                self.hold(lengths, codes, [number, 255], 0)

    def test_all_twelve_bits(self):
        for lengths in ([12] * 300, [12, 11, 10, 9, 8, 7, 6, 5, 4, 3, 2, 1], [0, 12, 0, 1, 0, 7], [9] * 300, [12]):
            codes = CodeReader(lengths)
            for number in range(0, 4096, 61):
                self.hold(lengths, codes, [number >> 8, number & 255], 4)
                self.hold(lengths, codes, [number >> 4, (number & 15) << 4, 255], 0)
            for number in range(0, 2048, 31):
                self.hold(lengths, codes, [number >> 8, number & 255], 5)

    def hold_refusal(self, refusal, lengths, signs, more):
        """The bits end a row of two bytes, ahead of which others stand and behind which more come."""
        filled = signs.rjust(16, "1")
        reader = BitReader([int(filled[:8], 2), int(filled[8:], 2)] + more)
        reader.go(16 - len(signs))
        self.assertRaises(refusal, CodeReader(lengths).thing, reader)
        self.assertEqual(reader.place(), 16 - len(signs))

    def test_bad_code_as_soon_as_it_can_be(self):
        cases = [([1], "1"), ([0, 2], "1"), ([0, 2], "01"), ([3, 3, 3], "011"), ([3, 3, 3], "1"),
                 ([12], "000000000001"), ([12], "00001"), ([1, 3], "11"), ([1, 3], "101"), ([2, 2, 2], "11")]
        for lengths, signs in cases:
            for more in ([], [0], [255, 255]):
                self.hold_refusal(BadCode, lengths, signs, more)
            self.hold_refusal(NoBits, lengths, signs[:-1], [])

    def test_no_bits_at_all(self):
        for lengths in ROWS:
            reader = BitReader([])
            self.assertRaises(NoBits, CodeReader(lengths).thing, reader)
            self.assertEqual((reader.place(), reader.left()), (0, 0))
            reader = BitReader([255])
            reader.go(8)
            self.assertRaises(NoBits, CodeReader(lengths).thing, reader)
            self.assertEqual(reader.place(), 8)

    def test_goes_on_behind_a_refusal(self):
        codes, reader = CodeReader([2, 2, 2]), BitReader([0b01110010])
        self.assertEqual(codes.thing(reader), 1)
        for step in range(3):
            self.assertRaises(BadCode, codes.thing, reader)
            self.assertEqual(reader.place(), 2)
        reader.go(4)
        self.assertEqual([codes.thing(reader), codes.thing(reader)], [0, 2])
        self.assertRaises(NoBits, codes.thing, reader)
        self.assertEqual(reader.place(), 8)

    def test_two_by_turns(self):
        first, second = CodeReader([1, 2, 2]), CodeReader([3, 3, 1, 0, 2])
        one, two = BitReader([0b01011010]), BitReader([0b01011011, 0b10000000])
        told = []
        for step in range(4):
            told += [first.thing(one), second.thing(two)]
        self.assertEqual(told, [0, 2, 1, 4, 2, 0, 0, 1])
        self.assertEqual((one.place(), two.place()), (6, 9))

    def test_two_readers_of_one(self):
        codes = CodeReader([2, 1, 2])
        one, two = BitReader([0b10011000]), BitReader([0b11101011])
        self.assertEqual(codes.thing(one), 0)
        self.assertEqual(codes.thing(two), 2)
        self.assertEqual(codes.thing(one), 1)
        self.assertEqual(codes.thing(two), 0)
        self.assertEqual((one.place(), two.place()), (3, 4))

    def test_lengths_may_be_changed_later(self):
        lengths = [2, 1, 2]
        codes = CodeReader(lengths)
        self.assertEqual(lengths, [2, 1, 2])
        lengths[0] = 1
        lengths[1] = 0
        lengths.append(2)
        reader = BitReader([0b10011000])
        self.assertEqual([codes.thing(reader) for step in range(3)], [0, 1, 2])


if __name__ == "__main__":
    unittest.main()
