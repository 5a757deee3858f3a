import unittest

from balepress.bits import BitReader, BitRow
from balepress.errors import BadBody, BadRow, NoBits
from balepress.shares import lengths_of
from balepress.ways import CopyWay, RawWay, RunWay, ShareWay, Way, best_way, ways
from balepress.windows import text_of
from tests.reckoned import (body_bits, body_read, bytes_of, coded_bits, copy_bits, raw_bits, reader_of, run_bits,
                            signs_in, signs_of, table_bits)
from tests.samples import no_rows, spread


def four_ways():
    return [RawWay(), RunWay(), CopyWay(), ShareWay()]


def stretched(seed, many, below, longest):
    """Runs of 1 to so many alike signs."""
    text = []
    for sign, size in zip(spread(seed, many, below), spread(seed + 1, many, longest)):
        text += [sign] * (1 + size)
    return text[:many]


def texts():
    told = [[0], [255], [7, 7], [1, 2], [7] * 3, [1, 2, 3], [7] * 4, [7] * 18, [7] * 19, [7] * 20, [7] * 63, [7] * 64,
            [0] * 64, [255] * 64, [1, 2] * 32, [1, 2, 3] * 21, list(range(64)), list(range(192, 256)),
            [0] * 32 + [255] * 32, [9] * 63 + [8], [8] + [9] * 63, list(range(20)) * 3]
    for seed, below in enumerate([2, 3, 4, 8, 30, 256]):
        told += [spread(seed, 64, below), spread(seed, 63, below), spread(seed, 10 + 7 * seed, below)]
        told += [stretched(seed, 64, below, 9), stretched(seed, 50, below, 40)]
    return told


def windows():
    return [None, [], [7], [1, 2, 3], [7] * 64, spread(1, 64, 3), spread(2, 128, 8), spread(3, 191, 2),
            spread(4, 192, 256), spread(5, 192, 4), [7] * 192, list(range(192))]


def cases():
    """Texts with windows: each text with some of them, and texts that stood ahead."""
    told = []
    for place, text in enumerate(texts()):
        for step in (0, 1, 5, 8):
            told.append((text, windows()[(place + step) % len(windows())]))
    for before in (spread(4, 192, 256), spread(6, 100, 20), list(range(64, 128))):
        for begin in (0, 1, 10, 30):
            ahead = before[begin:]
            told += [(ahead[:64], before), (ahead[:5] + [9] + ahead[5:40], before), (ahead[:3], before),
                     (ahead[:18] + ahead[2:22] + ahead[:20], before), (before[-30:] + ahead[:30], before)]
    return told


def bits_with(ahead):
    bits = BitRow()
    bits.put((1 << ahead) - 1, ahead)
    return bits


def told_bits(way, text, before, ahead=0):
    bits = bits_with(ahead)
    way.tell(bits, text, before)
    return signs_in(bits)


def no_texts():
    return no_rows() + [[], [0] * 65, [7] * 66, list(range(100)), [1] * 1000, [0] * 63 + [256], [0] * 63 + [True]]


def no_windows():
    windows = [thing for thing in no_rows() if thing is not None]
    return windows + [[0] * 193, [1] * 194, [7] * 255, [7] * 256, list(range(256)), [1] * 191 + [-1], [1] * 192 + [-1],
                      [False] * 192]


def many_pieces(seed, count, behind, least_back=1):
    """Any pieces, which tell just so many signs behind so many of the window."""
    pieces, many = [], 0
    for draw, back, size in zip(spread(seed, 64, 3), spread(seed + 1, 64, 255), spread(seed + 2, 64, 16)):
        size, back = min(3 + size, count - many), least_back + back
        if draw == 0 and size >= 3 and back <= behind + many:
            pieces.append(("copy", back, size))
        elif many < count:
            pieces.append(("sign", (back * 7 + draw) % 256))
        many += pieces[-1][2] if pieces[-1][0] == "copy" else 1
        if many >= count:
            return pieces
    return pieces + [("sign", 5)] * (count - many)


def lengths_with(seed, pieces):
    """Lengths by which all these pieces can be told, not those that would be told of them, and other things beside."""
    counts = [0] * 272
    for piece in pieces:
        counts[piece[1] if piece[0] == "sign" else 253 + piece[2]] = 1
    for thing, count in zip(spread(seed, 64, 272), spread(seed + 1, 64, 900)):
        if sum(1 for other in counts if other > 0) < 64 or counts[thing] > 0:
            counts[thing] = 1 + count
    return lengths_of(counts)


def drawn_bits(number, seed):
    """Bits that begin as a body of this way may, and go on anyhow."""
    drawn = raw_bits(spread(seed, 1 + seed % 70, 256))
    half = len(drawn) // 2
    if number == 1:
        return "".join("0000" + drawn[place:place + 10] for place in range(0, half, 10)) + drawn
    if number == 2:
        return "".join("0" + drawn[place:place + 8] for place in range(0, half, 8)) + drawn
    if number == 3 and seed % 8 == 3:
        return table_bits(lengths_of([int(count < 30) for count in spread(seed, 272, 256)])) + drawn
    if number == 3:
        copies = seed // 8 % 4
        return table_bits([6] * 40 + [0] * 216 + [3] * copies + [0] * (16 - copies)) + drawn
    return drawn


class KindTest(unittest.TestCase):
    def test_numbers(self):
        self.assertEqual([way.number() for way in four_ways()], [0, 1, 2, 3])
        for way in four_ways():
            self.assertIs(type(way.number()), int)

    def test_each_is_of_the_base(self):
        self.assertIsInstance(Way(), Way)
        for way in four_ways():
            self.assertIsInstance(way, Way)
            self.assertEqual(type(way).__bases__, (Way,))

    def test_own_number_tell_and_read_and_one_cost(self):
        for name in ("number", "tell", "read", "cost"):
            self.assertTrue(callable(vars(Way)[name]))
        for way in four_ways():
            for name in ("number", "tell", "read"):
                self.assertIn(name, vars(type(way)))
            self.assertIs(type(way).cost, Way.cost)

    def test_ways(self):
        told = ways()
        self.assertIs(type(told), list)
        self.assertEqual([type(way) for way in told], [RawWay, RunWay, CopyWay, ShareWay])
        again = ways()
        self.assertIsNot(again, told)
        for way, other in zip(told, again):
            self.assertIsNot(way, other)
        told.clear()
        self.assertEqual([way.number() for way in ways()], [0, 1, 2, 3])
        self.assertEqual([way.number() for way in again], [0, 1, 2, 3])


class TellTest(unittest.TestCase):
    def test_by_hand(self):
        self.assertEqual(told_bits(RawWay(), [5, 255], None), "00000101" "11111111")
        self.assertEqual(told_bits(RunWay(), [5, 5, 5, 255], None), "000010" "00000101" "000000" "11111111")
        self.assertEqual(told_bits(CopyWay(), [5, 5, 5, 5], None), "0" "00000101" "1" "00000001" "0000")
        self.assertEqual(told_bits(CopyWay(), [1, 2, 3, 4], [1, 2, 3, 4]), "1" "00000100" "0001")
        self.assertEqual(told_bits(CopyWay(), [1, 2], [1, 2]), "0" "00000001" "0" "00000010")

    def test_shares_by_hand(self):
        alone = "001" "000" + "111" "111111" * 4 + "111" "000011"
        self.assertEqual(told_bits(ShareWay(), [0], None), alone + "0")
        self.assertEqual(told_bits(ShareWay(), [0, 0], None), alone + "00")
        copy_of_18 = "111" "111111" * 4 + "111" "000100" + "001"
        self.assertEqual(told_bits(ShareWay(), [7] * 18, [7]), copy_of_18 + "0" "00000001")
        self.assertEqual(told_bits(ShareWay(), [7] * 36, [7] * 3), copy_of_18 + "0" "00000001" * 2)
        pieces = [("sign", 0), ("copy", 1, 3)]
        table = [1] + [0] * 255 + [1] + [0] * 15
        self.assertEqual(told_bits(ShareWay(), [0] * 4, None), table_bits(table) + coded_bits(pieces, table))

    def test_against_a_second_way(self):
        for place, (text, before) in enumerate(cases()):
            ahead = place % 12
            for way in four_ways():
                bits = bits_with(ahead)
                kept = list(text), None if before is None else list(before)
                self.assertIsNone(way.tell(bits, text, before))
                self.assertEqual((text, before), kept)
                signs = body_bits(way.number(), text, before)
                self.assertEqual(signs_in(bits), "1" * ahead + signs, (way.number(), text, before))
                cost = way.cost(text, before)
                self.assertEqual(cost, len(signs))
                self.assertIs(type(cost), int)
                self.assertEqual((text, before), kept)

    def test_read_again(self):
        for place, (text, before) in enumerate(cases()):
            ahead = place % 9
            for way in four_ways():
                signs = told_bits(way, text, before, ahead)
                for more in ("", "1" * 20, "0" * 9):
                    reader = BitReader(bytes_of(signs + more))
                    reader.go(ahead)
                    told = way.read(reader, len(text), before)
                    self.assertEqual(told, text)
                    self.assertIs(type(told), list)
                    self.assertEqual(reader.place(), len(signs))

    def test_none_and_no_signs_are_one_window(self):
        for text in texts():
            for way in four_ways():
                self.assertEqual(told_bits(way, text, None), told_bits(way, text, []))
                self.assertEqual(way.cost(text, None), way.cost(text, []))

    def test_runs_of_each_size(self):
        for size in range(1, 65):
            for sign in (0, 9, 255):
                signs = signs_of(size - 1, 6) + signs_of(sign, 8)
                self.assertEqual(told_bits(RunWay(), [sign] * size, None), signs)
                self.assertEqual(RunWay().read(reader_of(signs), size, None), [sign] * size)
                if size < 64:
                    ahead, behind = [sign ^ 1] * (64 - size) + [sign] * size, [sign] * size + [sign ^ 1] * (64 - size)
                    other = signs_of(63 - size, 6) + signs_of(sign ^ 1, 8)
                    self.assertEqual(told_bits(RunWay(), ahead, [sign] * 9), other + signs)
                    self.assertEqual(told_bits(RunWay(), behind, [sign] * 9), signs + other)

    def test_several_told_one_behind_the_other(self):
        bits, signs = BitRow(), ""
        for place, (text, before) in enumerate(cases()[:40]):
            four_ways()[place % 4].tell(bits, text, before)
            signs += body_bits(place % 4, text, before)
        self.assertEqual(signs_in(bits), signs)
        reader = BitReader(bits.row())
        for place, (text, before) in enumerate(cases()[:40]):
            self.assertEqual(four_ways()[place % 4].read(reader, len(text), before), text)
        self.assertEqual(reader.place(), len(signs))

    def test_names_of_arguments(self):
        for way in four_ways():
            bits = BitRow()
            way.tell(bits=bits, text=[1, 2, 3], before=[1, 2, 3])
            self.assertEqual(way.cost(text=[1, 2, 3], before=[1, 2, 3]), bits.many())
            self.assertEqual(way.read(reader=BitReader(bits.row()), count=3, before=[1, 2, 3]), [1, 2, 3])

    def test_one_way_may_tell_many_texts(self):
        for way in four_ways():
            for text, before in cases()[::7]:
                self.assertEqual(told_bits(way, text, before), body_bits(way.number(), text, before))

    def test_what_is_told_and_handed_in_is_free(self):
        for way in four_ways():
            text, before, bits = [1, 2, 3, 1, 2, 3], [3, 1, 2], BitRow()
            way.tell(bits, text, before)
            signs = signs_in(bits)
            text[0] = before[0] = 77
            text.append(5)
            self.assertEqual(signs_in(bits), signs)
            window = [3, 1, 2]
            told = way.read(BitReader(bits.row()), 6, window)
            self.assertEqual(window, [3, 1, 2])
            told[0] = 9
            told.append(9)
            self.assertEqual(window, [3, 1, 2])
            self.assertEqual(way.read(BitReader(bits.row()), 6, window), [1, 2, 3, 1, 2, 3])


class TellRefusalTest(unittest.TestCase):
    def refused(self, text, before):
        for way in four_ways():
            bits = bits_with(5)
            self.assertRaises(BadRow, way.tell, bits, text, before)
            self.assertEqual(signs_in(bits), "11111")
            self.assertRaises(BadRow, way.cost, text, before)
        self.assertRaises(BadRow, best_way, text, before)

    def test_no_texts(self):
        for place, thing in enumerate(no_texts()):
            with self.subTest(place=place):
                self.refused(thing, None)
                self.refused(thing, [1, 2, 3])
                self.assertRaises(BadRow, best_way, thing)

    def test_no_windows(self):
        for place, thing in enumerate(no_windows()):
            with self.subTest(place=place):
                self.refused([1], thing)
                self.refused([1, 2, 3] * 21, thing)
                self.refused([], thing)

    def test_edges_that_are_good(self):
        for way in four_ways():
            for text in ([0], [0] * 64):
                for before in (None, [], [0] * 192):
                    self.assertEqual(told_bits(way, text, before), body_bits(way.number(), text, before))


class AnyPiecesTest(unittest.TestCase):
    def held(self, way, signs, count, before, text):
        for ahead in (0, 3):
            reader = reader_of(signs + "10110", ahead)
            self.assertEqual(way.read(reader, count, before), text)
            self.assertEqual(reader.place(), ahead + len(signs))

    def test_copies_into_the_window_and_into_themselves(self):
        for size in range(3, 19):
            for back in (1, 2, 3, 10, 17, 18, 191, 192):
                before = spread(back, 192, 256)
                pieces = [("copy", back, size)]
                text = text_of(pieces, before)
                self.held(CopyWay(), copy_bits(pieces), size, before, text)
                lengths = lengths_with(size, pieces)
                self.held(ShareWay(), table_bits(lengths) + coded_bits(pieces, lengths), size, before, text)

    def test_copies_from_the_farthest_sign(self):
        for many in range(0, 62):
            before = spread(many, 192, 256)
            pieces = [("sign", sign) for sign in spread(many + 1, many, 256)] + [("copy", 192 + many, 3)]
            text = text_of(pieces, before)
            self.held(CopyWay(), copy_bits(pieces), many + 3, before, text)
            lengths = lengths_with(many, pieces)
            self.held(ShareWay(), table_bits(lengths) + coded_bits(pieces, lengths), many + 3, before, text)

    def test_any_pieces(self):
        for seed in range(60):
            behind = (0, 1, 20, 100, 192)[seed % 5]
            count = (64, 1, 40, 63, 2, 17)[seed % 6]
            before = spread(seed, behind, 256)
            pieces = many_pieces(seed, count, behind)
            text = text_of(pieces, before)
            self.assertEqual(len(text), count)
            self.held(CopyWay(), copy_bits(pieces), count, before, text)
            lengths = lengths_with(seed, pieces)
            self.held(ShareWay(), table_bits(lengths) + coded_bits(pieces, lengths), count, before, text)
            if behind == 0:
                self.held(CopyWay(), copy_bits(pieces), count, None, text)

    def test_signs_alone_where_copies_would_be_told(self):
        pieces = [("sign", 7)] * 64
        self.held(CopyWay(), copy_bits(pieces), 64, [7] * 192, [7] * 64)
        table = [0] * 7 + [6] + [0] * 264
        self.held(ShareWay(), table_bits(table) + "000000" * 64, 64, [7] * 192, [7] * 64)

    def test_runs_that_could_be_one(self):
        signs = (signs_of(0, 6) + signs_of(7, 8)) * 3 + signs_of(60, 6) + signs_of(7, 8)
        self.held(RunWay(), signs, 64, None, [7] * 64)

    def test_any_items_of_a_table(self):
        lengths = [2, 2, 2, 2] + [0] * 268
        one_by_one = "".join(signs_of(length, 3) for length in lengths)
        self.held(ShareWay(), one_by_one + "00011011", 4, None, [0, 1, 2, 3])
        in_threes = "010" * 4 + "000" + "111000000" * 89
        self.held(ShareWay(), in_threes + "11", 1, None, [3])

    def test_tables_whose_codes_leave_room(self):
        for length in range(1, 7):
            for thing in (0, 100, 255):
                table = [0] * 272
                table[thing] = length
                self.held(ShareWay(), table_bits(table) + "0" * length * 9, 9, None, [thing] * 9)
        table = [6] * 64 + [0] * 208
        signs = "".join(signs_of(sign, 6) for sign in reversed(range(64)))
        self.held(ShareWay(), table_bits(table) + signs, 64, None, list(reversed(range(64))))


class ReadRefusalTest(unittest.TestCase):
    def refused(self, error, way, signs, count, before=None, filled=True):
        """Behind 0 to 7 bits; the bits end where the signs end, or go on with noughts and ones."""
        for ahead in range(8) if filled else [-len(signs) % 8]:
            reader = reader_of(signs, ahead)
            self.assertRaises(error, way.read, reader, count, before)
            if filled:
                self.assertRaises(error, way.read, reader_of(signs + "01" * 20, ahead), count, before)

    def test_runs_beyond_count(self):
        for count in range(1, 64):
            for ahead in range(0, count, 5):
                signs = (signs_of(ahead - 1, 6) + signs_of(4, 8)) if ahead else ""
                for size in (count - ahead + 1, 64):
                    self.refused(BadBody, RunWay(), signs + signs_of(size - 1, 6) + signs_of(9, 8), count)

    def test_copies_beyond_count(self):
        table = [1] + [0] * 255 + [6] * 16
        for count in range(1, 64, 3):
            for size in range(3, 19):
                for signs_ahead in {max(0, count - size + 1), count - 1}:
                    pieces = [("sign", 0)] * signs_ahead + [("copy", 1, size)]
                    self.refused(BadBody, CopyWay(), copy_bits(pieces), count, [5])
                    self.refused(BadBody, ShareWay(), table_bits(table) + coded_bits(pieces, table), count, [5])

    def test_copies_from_farther_back_than_there_are_signs(self):
        table = [1] + [0] * 255 + [6] * 16
        for behind, before in ((0, None), (0, []), (1, [5]), (100, [5] * 100), (192, [5] * 192)):
            for many in (0, 1, 2, 30, 60):
                for back in {behind + many + 1, 200, 254, 255}:
                    if behind + many < back <= 255:
                        pieces = [("sign", 0)] * many + [("copy", back, 3)]
                        self.refused(BadBody, CopyWay(), copy_bits(pieces), 64, before)
                        self.refused(BadBody, ShareWay(), table_bits(table) + coded_bits(pieces, table), 64, before)

    def test_backs_of_nought(self):
        table = [1] + [0] * 255 + [6] * 16
        for many in (0, 1, 30):
            for size in (3, 18):
                pieces = [("sign", 0)] * many + [("copy", 0, size)]
                for before in (None, [5], [5] * 192):
                    self.refused(BadBody, CopyWay(), copy_bits(pieces), 64, before)
                    self.refused(BadBody, ShareWay(), table_bits(table) + coded_bits(pieces, table), 64, before)

    def test_no_table(self):
        for signs in ("111111111" * 5, "001" + "111111111" * 4 + "111000101", "010" * 270 + "111000000",
                      "001" + "111111111" * 3 + "110" * 72 + "111111111"):
            self.refused(BadBody, ShareWay(), signs, 1)
            self.refused(BadBody, ShareWay(), signs, 64, [1] * 192)

    def test_lengths_of_no_codes_ahead_of_the_first_code(self):
        tables = [[0] * 272, [1] * 272, [6] * 65 + [0] * 207, [1, 1, 6] + [0] * 269, [6] + [0] * 269 + [1, 1],
                  [6] * 272, [2] * 5 + [0] * 267]
        for table in tables:
            self.refused(BadBody, ShareWay(), table_bits(table), 1)
            self.refused(BadBody, ShareWay(), table_bits(table), 1, filled=False)

    def test_no_code(self):
        for table, signs in (([1] + [0] * 271, "1"), ([6] + [0] * 271, "1"), ([6] + [0] * 271, "01"),
                             ([6] + [0] * 271, "000001"), ([2, 2, 2] + [0] * 269, "11"),
                             ([2, 2, 2] + [0] * 269, "000111")):
            self.refused(BadBody, ShareWay(), table_bits(table) + signs, 64)
            self.refused(BadBody, ShareWay(), table_bits(table) + signs, 64, filled=False)

    def test_each_bit_at_which_they_end(self):
        for text, before in [([5], None), ([9] * 7 + [1, 2], [1]), (list(range(20)) + [3, 4, 5, 6], [7, 8]),
                             (spread(3, 64, 9), spread(4, 192, 9)), ([7] * 64, [7])]:
            for way in four_ways():
                signs = told_bits(way, text, before)
                for end in range(len(signs)):
                    self.refused(NoBits, way, signs[:end], len(text), before, filled=False)
                self.assertEqual(way.read(reader_of(signs, -len(signs) % 8), len(text), before), text)

    def test_each_bit_at_which_they_end_ahead_of_a_wrong_piece(self):
        table = [1] + [0] * 255 + [6] * 16
        far, beyond = [("copy", 255, 3)], [("copy", 1, 18)]
        for way, begun, wrong in [
                (RunWay(), "", run_bits([7] * 64)), (RunWay(), run_bits([7] * 3), run_bits([8] * 8)),
                (CopyWay(), "", copy_bits(far)), (CopyWay(), copy_bits([("sign", 0)] * 3), copy_bits(beyond)),
                (CopyWay(), "", copy_bits([("copy", 0, 3)])),
                (ShareWay(), table_bits(table), coded_bits(far, table)),
                (ShareWay(), table_bits(table) + "0" * 3, coded_bits(beyond, table)),
                (ShareWay(), table_bits(table), coded_bits([("copy", 0, 3)], table)),
                (ShareWay(), "001" + "111111111" * 4, "111000101"), (ShareWay(), "111111111" * 4, "111111111")]:
            for end in range(len(wrong)):
                self.refused(NoBits, way, begun + wrong[:end], 10, [1], filled=False)
            self.refused(BadBody, way, begun + wrong, 10, [1], filled=False)

    def test_any_bits(self):
        """What comes of them is what a second way of reading finds."""
        seen = {}
        for seed in range(900):
            number, count = seed % 4, 1 + seed * 7 % 64
            before = [None, [1, 2], spread(seed, 120, 256), spread(seed, 192, 4)][seed // 4 % 4]
            signs = drawn_bits(number, seed)
            ahead = -len(signs) % 8
            reader = reader_of(signs, ahead)
            wanted, taken = body_read(number, signs, count, before)
            way = four_ways()[number]
            if isinstance(wanted, list):
                self.assertEqual(way.read(reader, count, before), wanted)
                self.assertEqual(reader.place(), ahead + taken)
            else:
                self.assertRaises(wanted, way.read, reader, count, before)
            outcome = (number, "text" if isinstance(wanted, list) else wanted.__name__)
            seen[outcome] = seen.get(outcome, 0) + 1
        for number in range(4):
            for word in ("text", "NoBits") + (("BadBody",) if number else ()):
                self.assertGreater(seen.get((number, word), 0), 5, (number, word, seen))


class BestWayTest(unittest.TestCase):
    def test_one_by_hand_of_each(self):
        self.assertIs(type(best_way([6])), RawWay)
        self.assertIs(type(best_way([1, 1])), RunWay)
        self.assertIs(type(best_way([3, 6, 3, 6, 3])), CopyWay)
        self.assertIs(type(best_way([1, 2, 3], [1, 2, 3])), CopyWay)
        self.assertIs(type(best_way([1, 1, 0, 1, 0, 0, 1, 1])), ShareWay)

    def test_of_several_the_least_number(self):
        for text, numbers in (([1, 0, 1, 1, 1, 0, 0], [0, 1]),
                              ([6, 8, 4, 1, 3, 6, 8, 6, 8, 1, 8, 1, 8, 5], None),
                              (list(range(11)) + [0, 1, 2], [0, 2]),
                              ([1, 2, 3, 4, 3, 1, 3, 3, 0, 3], [0, 3]),
                              ([1, 2, 1, 1, 0, 0, 0, 0, 2, 0, 2, 2, 2, 2, 2], [1, 2]),
                              ([4, 3, 0, 2, 0, 4, 1, 3, 2, 0, 3, 0, 2, 2, 0, 3], [2, 3])):
            costs = [len(body_bits(number, text, None)) for number in range(4)]
            cheapest = [number for number in range(4) if costs[number] == min(costs)]
            self.assertEqual(best_way(text).number(), cheapest[0])
            if numbers is not None:
                self.assertEqual(cheapest, numbers, text)

    def test_the_fewest_bits(self):
        seen = []
        for text, before in cases():
            kept = list(text), None if before is None else list(before)
            costs = [len(body_bits(number, text, before)) for number in range(4)]
            way = best_way(text, before)
            self.assertEqual(way.number(), costs.index(min(costs)))
            self.assertIs(type(way), (RawWay, RunWay, CopyWay, ShareWay)[way.number()])
            self.assertEqual((text, before), kept)
            seen.append(way.number())
        self.assertEqual(set(seen), {0, 1, 2, 3})

    def test_before_left_out(self):
        for text in texts():
            number = best_way(text).number()
            self.assertEqual(best_way(text, None).number(), number)
            self.assertEqual(best_way(text, []).number(), number)
        self.assertEqual(best_way(text=[1, 2, 3], before=[1, 2, 3]).number(), 2)

    def test_made_anew(self):
        self.assertIsNot(best_way([1]), best_way([1]))

    def test_never_more_than_raw(self):
        for text, before in cases():
            self.assertLessEqual(best_way(text, before).cost(text, before), len(raw_bits(text)))


if __name__ == "__main__":
    unittest.main()
