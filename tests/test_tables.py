import unittest

from balepress.bits import BitReader, BitRow
from balepress.errors import BadTable, NoBits
from balepress.shares import lengths_of
from balepress.tables import MANY, put_table, take_table
from tests.reckoned import read_items, signs_in
from tests.samples import no_lists, no_whole_numbers, spread


def stretched(*pairs):
    """A table of stretches (length, how many); the last length fills what is left."""
    table = []
    for length, many in pairs:
        table += [length] * many
    return (table + [table[-1]] * 272)[:272]


def stretches_of(many, first):
    table = []
    while len(table) < 272:
        table += [(first + len(table) // many) % 7] * many
    return table[:272]


def tables():
    told = [[length] * 272 for length in range(7)]
    told += [[place % 7 for place in range(272)], [place % 2 for place in range(272)]]
    told += [spread(seed, 272, below) for seed, below in enumerate([2, 3, 7, 7])]
    for many in [1, 2, 3, 4, 5] + list(range(64, 76)) + list(range(129, 137)):
        for first in (0, 1, 6):
            told.append(stretches_of(many, first))
        told.append(stretched((5, 1), (2, many), (3, 1)))
        told.append(stretched((0, many), (3, 1)))
        told.append([4] * (272 - many) + [0] * many)
        told.append([0] * (272 - many) + [6] * many)
    told += [stretched((0, 1), (1, 1)), stretched((0, 2), (5, 4), (0, 1)), stretched((1, 1), (0, 271))]
    told.append(lengths_of(spread(5, 272, 3)[:60] + [0] * 212))
    told.append(lengths_of([int(count == 7) for count in spread(6, 272, 9)]))
    for seed in range(10):
        ends = spread(seed, 40, 12)
        told.append(stretched(*zip(spread(seed + 50, 40, 7), [1 + end for end in ends])))
    return told


def fewest_bits(table):
    """Looks at every item at each place, from the table's end on."""
    fewest = [0] * 273
    for place in range(271, -1, -1):
        ahead = table[place - 1] if place > 0 else 0
        fewest[place] = 3 + fewest[place + 1]
        for again in range(1, min(66, 272 - place) + 1):
            if table[place + again - 1] != ahead:
                break
            if again >= 3:
                fewest[place] = min(fewest[place], 9 + fewest[place + again])
    return fewest[0]


def put_items(bits, items):
    """A number is a length; a tuple holds how many times more the length ahead comes."""
    for item in items:
        if isinstance(item, tuple):
            bits.put(7, 3)
            bits.put(item[0] - 3, 6)
        else:
            bits.put(item, 3)


def no_tables():
    things = no_lists() + [[], [0], [0] * 271, [0] * 273, [1] * 544, [1, 2, 3]]
    for thing in [-1, -6, 7, 8, 12, 255, 10 ** 5000, -10 ** 5000] + no_whole_numbers():
        for place in (0, 1, 135, 270, 271):
            table = stretches_of(9, 0)
            table[place] = thing
            things.append(table)
    for place in range(272):
        for thing in (-1, 7, True, "1"):
            table = stretches_of(5, 0)
            table[place] = thing
            things.append(table)
    return things


def state(reader):
    return reader.place(), reader.left()


class PutTest(unittest.TestCase):
    def test_many(self):
        self.assertEqual(MANY, 272)

    def test_by_hand(self):
        for table, many in (([0] * 272, 45), ([1] * 272, 48), ([0, 1] * 136, 816), ([6] + [0] * 271, 51),
                            ([0] * 3 + [1] * 269, 57), ([2] * 68 + [3] * 204, 54)):
            bits = BitRow()
            self.assertIsNone(put_table(bits, table))
            self.assertEqual((bits.many(), fewest_bits(table)), (many, many))
        bits = BitRow()
        put_table(bits, [0] * 4 + [1, 2] * 134)
        self.assertEqual(signs_in(bits), "111000001" + "001010" * 134)

    def test_fewest_bits_that_tell_the_table(self):
        for table in tables():
            kept = list(table)
            bits = BitRow()
            self.assertIsNone(put_table(bits=bits, lengths=table))
            self.assertEqual(table, kept)
            self.assertEqual(bits.many(), fewest_bits(table), table)
            self.assertEqual(read_items(signs_in(bits)), (table, bits.many()))

    def test_behind_others_the_same_bits(self):
        for table in tables()[::7]:
            alone = BitRow()
            put_table(alone, table)
            for ahead in range(1, 10):
                bits = BitRow()
                bits.put(1, ahead)
                put_table(bits, list(table))
                self.assertEqual(signs_in(bits), format(1, f"0{ahead}b") + signs_in(alone))

    def test_what_was_handed_in_may_be_changed_later(self):
        bits, table = BitRow(), stretches_of(5, 0)
        put_table(bits, table)
        kept = bits.row()
        table[0] = 6
        self.assertEqual(bits.row(), kept)

    def test_no_tables_put_nothing(self):
        bits = BitRow()
        bits.put(5, 3)
        for place, thing in enumerate(no_tables()):
            with self.subTest(place=place):
                self.assertRaises(BadTable, put_table, bits, thing)
                self.assertEqual((bits.many(), bits.row()), (3, [160]))
        put_table(bits, [0] * 272)
        self.assertEqual(bits.many(), 3 + fewest_bits([0] * 272))


class TakeTest(unittest.TestCase):
    def test_what_was_put_is_taken(self):
        for which, table in enumerate(tables()):
            for ahead in (0, 1 + which % 7, 8):
                bits = BitRow()
                bits.put(2 ** ahead - 1, ahead)
                put_table(bits, table)
                end = bits.many()
                for behind in (0, 5, 24):
                    bits.put(2 ** behind - 1, behind)
                    reader = BitReader(bits.row())
                    reader.go(ahead)
                    told = take_table(reader=reader)
                    self.assertEqual(told, table)
                    self.assertIs(type(told), list)
                    self.assertEqual(reader.place(), end)

    def test_any_row_of_items(self):
        rows = [
            ([0] * 272, [0] * 272),
            ([(66,), (66,), (66,), (66,), (8,)], [0] * 272),
            ([(3,)] * 90 + [0, 0], [0] * 272),
            ([(3,)] * 90 + [5, 6], [0] * 270 + [5, 6]),
            ([(10,), 4, (3,), 4, 4, (66,), (66,), (66,), 2, (57,)], [0] * 10 + [4] * 204 + [2] * 58),
            ([6, (66,), (66,), (66,), (66,), 6, 6, 6, 6, 5, 5, 0], [6] * 269 + [5, 5, 0]),
            ([place % 7 for place in range(269)] + [(3,)], [place % 7 for place in range(269)] + [268 % 7] * 3),
            ([1, (3,)] * 68, [1] * 272),
            ([(4,), (4,), 3] * 30 + [2, 2], ([0] * 8 + [3] + ([3] * 8 + [3]) * 29) + [2, 2]),
        ]
        for items, table in rows:
            self.assertEqual(len(table), 272)
            for ahead in (0, 3, 8):
                bits = BitRow()
                bits.put(0, ahead)
                put_items(bits, items)
                end = bits.many()
                bits.put(7, 3)
                reader = BitReader(bits.row())
                reader.go(ahead)
                self.assertEqual(take_table(reader), table)
                self.assertEqual(reader.place(), end)

    def test_told_table_is_the_askers_own(self):
        bits = BitRow()
        put_table(bits, stretches_of(4, 2))
        reader = BitReader(bits.row())
        told = take_table(reader)
        told[0] = 99
        told.append(1)
        reader.go(0)
        self.assertEqual(take_table(reader), stretches_of(4, 2))

    def test_two_tables_one_behind_the_other(self):
        bits = BitRow()
        put_table(bits, stretches_of(4, 2))
        put_table(bits, [0] * 272)
        reader = BitReader(bits.row())
        self.assertEqual(take_table(reader), stretches_of(4, 2))
        self.assertEqual(take_table(reader), [0] * 272)

    def test_more_than_272_come(self):
        for many in range(0, 272):
            for again in (3, 4, 65, 66):
                if many + again > 272:
                    bits = BitRow()
                    bits.put(1, 1 + many % 8)
                    put_items(bits, [1 + place % 6 for place in range(many)] + [(again,)])
                    bits.put(0, 24)
                    reader = BitReader(bits.row())
                    reader.go(1 + many % 8)
                    before = state(reader)
                    self.assertRaises(BadTable, take_table, reader)
                    self.assertEqual(state(reader), before)

    def test_just_272_is_no_refusal(self):
        for again in range(3, 67):
            bits = BitRow()
            put_items(bits, [1] * (272 - again) + [(again,)])
            self.assertEqual(take_table(BitReader(bits.row())), [1] * 272)

    def test_bad_table_only_behind_all_bits_of_the_item(self):
        for many in (269, 270, 271):
            for present in range(7):
                # The bits ahead make the row end just behind so many of the item's six bits.
                ahead = -(3 * many + 3 + present) % 8
                bits = BitRow()
                bits.put(0, ahead)
                put_items(bits, [1] * many)
                bits.put(7, 3)
                bits.put(2 ** present - 1, present)
                reader = BitReader(bits.row())
                reader.go(ahead)
                before = state(reader)
                self.assertEqual(before[1], 3 * many + 3 + present)
                self.assertRaises(BadTable if present == 6 else NoBits, take_table, reader)
                self.assertEqual(state(reader), before)

    def test_bits_that_end(self):
        for table in tables()[::5]:
            for ahead in range(8):
                bits = BitRow()
                bits.put(0, ahead)
                put_table(bits, table)
                row = bits.row()
                for cut in range(1, len(row) + 1, 1 if len(row) < 20 else 7):
                    reader = BitReader(row[:len(row) - cut])
                    reader.go(min(ahead, 8 * (len(row) - cut)))
                    before = state(reader)
                    self.assertRaises(NoBits, take_table, reader)
                    self.assertEqual(state(reader), before)

    def test_no_bits_at_all(self):
        for row, place in (([], 0), ([255], 8), ([255], 6), ([255], 0), ([7], 5)):
            reader = BitReader(row)
            reader.go(place)
            before = state(reader)
            self.assertRaises(NoBits, take_table, reader)
            self.assertEqual(state(reader), before)


if __name__ == "__main__":
    unittest.main()
