import itertools
import unittest

from balepress.errors import BadShares
from balepress.shares import MOST_BITS, lengths_of
from tests.samples import no_lists, no_whole_numbers, spread

MOSTS = list(range(1, 13))


def sums_of_two(many):
    row = [1, 1]
    while len(row) < many:
        row.append(row[-1] + row[-2])
    return row[:many]


def cost(counts, lengths):
    return sum(count * length for count, length in zip(counts, lengths))


def fits(lengths, most):
    return sum(2 ** (most - length) for length in lengths if length > 0) <= 2 ** most


def least_by_trying(counts, most):
    coming = [count for count in counts if count > 0]
    rows = itertools.product(range(1, most + 1), repeat=len(coming))
    return min(cost(coming, row) for row in rows if fits(row, most))


def least_by_levels(counts, most):
    """Goes down a tree level by level: the i greatest counts have leaves above, so many free nodes are left."""
    coming = sorted([count for count in counts if count > 0], reverse=True)
    many = len(coming)
    rest = [sum(coming[place:]) for place in range(many + 1)]
    level = {(0, min(2, many)): rest[0]}
    least = None
    for depth in range(most):
        below = {}
        for placed in range(many):
            for free in range(many - placed, 0, -1):
                told = level.get((placed, free))
                if told is None:
                    continue
                leaf = (placed + 1, free - 1)
                level[leaf] = min(told, level.get(leaf, told))
                deeper = (placed, min(2 * free, many - placed))
                below[deeper] = min(told + rest[placed], below.get(deeper, told + rest[placed]))
        done = level.get((many, 0))
        if done is not None:
            least = done if least is None else min(least, done)
        level = below
    return least


def enough(counts):
    """The greatest lengths that are enough for as many things as come."""
    many = len([count for count in counts if count > 0])
    return [most for most in MOSTS if many <= 2 ** most]


class LengthsTest(unittest.TestCase):
    def hold(self, counts, most, least):
        kept = list(counts)
        lengths = lengths_of(counts, most)
        self.assertEqual(counts, kept)
        self.assertIs(type(lengths), list)
        self.assertEqual(len(lengths), len(counts))
        for count, length in zip(counts, lengths):
            self.assertIs(type(length), int)
            self.assertTrue(1 <= length <= most if count > 0 else length == 0, (counts, most, lengths))
        self.assertTrue(fits(lengths, most), (counts, most, lengths))
        self.assertEqual(cost(counts, lengths), least, (counts, most, lengths))
        self.assertEqual(lengths_of(list(counts), most), lengths)

    def hold_all(self, counts, reckon):
        for most in enough(counts):
            self.hold(counts, most, reckon(counts, most))

    def test_most_bits(self):
        self.assertEqual(MOST_BITS, 6)

    def test_by_hand(self):
        self.assertEqual(lengths_of([8, 4, 2, 1]), [1, 2, 3, 3])
        self.assertEqual(lengths_of([8, 4, 2, 1], 3), [1, 2, 3, 3])
        self.assertEqual(lengths_of([8, 4, 2, 1], 2), [2, 2, 2, 2])
        self.assertEqual(lengths_of([1, 0, 2, 4, 0, 8]), [3, 0, 3, 2, 0, 1])
        self.assertEqual(lengths_of([3, 9], 1), [1, 1])

    def test_one_alone(self):
        for most in MOSTS:
            for count in (1, 2, 1000000):
                self.assertEqual(lengths_of([count], most), [1])
                self.assertEqual(lengths_of([0, 0, count, 0], most), [0, 0, 1, 0])
        for place in (0, 1, 150, 299):
            counts = [0] * 300
            counts[place] = 5
            self.assertEqual(lengths_of(counts), [int(count > 0) for count in counts])

    def test_few_by_trying_all(self):
        for row in ([1, 1], [1, 1, 1], [1, 2, 4], [1, 2, 4, 8], [9, 9, 9, 1], [1, 1, 1, 1], [3, 1, 4, 1],
                    [0, 5, 0, 3, 2], [1000000, 1, 1, 1000000], [1000000, 999999, 1, 1], [7, 0, 0, 7]):
            self.hold_all(row, least_by_trying)

    def test_five_by_trying_all(self):
        for row in ([1, 1, 2, 3, 5], [16, 8, 4, 2, 1], [4, 4, 4, 4, 4], [0, 1, 0, 2, 7, 50, 0, 300]):
            for most in range(3, 8):
                self.hold(row, most, least_by_trying(row, most))
        self.hold([1, 1, 2, 3, 5], 12, least_by_trying([1, 1, 2, 3, 5], 5))

    def test_all_small_rows(self):
        for many in (1, 2, 3, 4):
            for row in itertools.product(range(5), repeat=many):
                if any(row):
                    for most in enough(row)[:3]:
                        self.hold(list(row), most, least_by_trying(row, most))

    def test_second_way_agrees_with_trying(self):
        for seed in range(8):
            counts = [1 + count for count in spread(seed, 5, 40)]
            for most in (3, 4, 5):
                self.assertEqual(least_by_levels(counts, most), least_by_trying(counts, most))

    def test_alike_ones(self):
        for many in list(range(1, 20)) + [31, 32, 33, 63, 64]:
            for count in (1, 1000000):
                self.hold_all([count] * many, least_by_levels)

    def test_sums_of_two_ahead(self):
        for many in range(2, 31):
            counts = sums_of_two(many)
            self.hold_all(counts, least_by_levels)
            self.hold_all([0] + counts[::-1] + [0], least_by_levels)
        self.assertEqual(max(lengths_of(sums_of_two(30), 12)), 12)

    def test_spread_counts(self):
        for seed, (many, below) in enumerate([(6, 10), (12, 3), (20, 1000), (40, 5), (64, 1000001), (90, 100)]):
            self.hold_all(spread(seed, many, below) + [1], least_by_levels)

    def test_steep_counts(self):
        self.hold_all([min(1000000, 3 ** place) for place in range(40)], least_by_levels)

    def test_three_hundred(self):
        for counts in (list(range(1, 301)), [1000000] * 300, [1] * 299 + [1000000]):
            for most in (9, 10, 11, 12):
                self.hold(counts, most, least_by_levels(counts, most))
        self.hold([0, 1000000, 0, 1, 7] * 60, 8, least_by_levels([1000000, 1, 7] * 60, 8))
        self.hold([0, 0, 0, 0, 9] * 60, 6, least_by_levels([9] * 60, 6))

    def test_left_out_is_six(self):
        for counts in (sums_of_two(20), [1] * 64, spread(3, 50, 900) + [1], [5]):
            self.assertEqual(lengths_of(counts), lengths_of(counts, 6))
        self.assertEqual(lengths_of(counts=[8, 4, 2, 1], most=2), [2, 2, 2, 2])
        self.assertEqual(max(lengths_of(sums_of_two(20))), 6)

    def test_changed_told_list_changes_nothing(self):
        counts = [5, 0, 3, 9]
        told = lengths_of(counts)
        kept = list(told)
        told[0] = 77
        told.append(5)
        self.assertEqual(lengths_of(counts), kept)
        again = lengths_of(counts)
        counts[0] = 0
        self.assertEqual(again, kept)


class RefusalTest(unittest.TestCase):
    def test_no_list(self):
        for place, thing in enumerate(no_lists()):
            with self.subTest(place=place):
                self.assertRaises(BadShares, lengths_of, thing)
                self.assertRaises(BadShares, lengths_of, thing, 12)

    def test_wrong_many(self):
        self.assertRaises(BadShares, lengths_of, [])
        for many in (301, 302, 1000):
            self.assertRaises(BadShares, lengths_of, [1] + [0] * (many - 1))
            self.assertRaises(BadShares, lengths_of, [1] * many, 12)

    def test_wrong_count_at_each_place(self):
        wrong = [-1, -1000000, 1000001, 10 ** 5000, -10 ** 5000] + no_whole_numbers()
        for many in (1, 2, 5):
            for place in range(many):
                for which, thing in enumerate(wrong):
                    with self.subTest(many=many, place=place, which=which):
                        counts = [4] * many
                        counts[place] = thing
                        self.assertRaises(BadShares, lengths_of, counts)
                        self.assertEqual(len(counts), many)
        for place in range(300):
            for thing in (-1, 1000001, True, "1"):
                counts = [1] * 40 + [0] * 260
                counts[place] = thing
                self.assertRaises(BadShares, lengths_of, counts)

    def test_none_above_nought(self):
        for many in (1, 2, 300):
            self.assertRaises(BadShares, lengths_of, [0] * many)

    def test_wrong_most(self):
        for place, most in enumerate([-1, -6, 0, 13, 14, 10 ** 5000, -10 ** 5000] + no_whole_numbers()):
            with self.subTest(place=place):
                self.assertRaises(BadShares, lengths_of, [1, 2], most)
                self.assertRaises(BadShares, lengths_of, [1], most)

    def test_more_than_there_are_codes(self):
        for most in range(1, 9):
            many = 2 ** most
            self.assertEqual(lengths_of([3] * many, most), [most] * many)
            self.assertRaises(BadShares, lengths_of, [3] * (many + 1), most)
            if many < 150:
                self.assertEqual(lengths_of([0, 3] * many, most), [0, most] * many)
                self.assertRaises(BadShares, lengths_of, [0, 3] * (many + 1), most)
        for count in (1, 3, 1000000):
            self.assertEqual(lengths_of([count] * 64), [6] * 64)
            self.assertRaises(BadShares, lengths_of, [count] * 65)
            self.assertRaises(BadShares, lengths_of, [count] * 65, 6)
        self.assertEqual(len(lengths_of([3] * 300, 9)), 300)


if __name__ == "__main__":
    unittest.main()
