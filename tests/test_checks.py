import unittest

from balepress.checks import Check, check_of, ends_in_check, with_check
from balepress.errors import BadBits, BadRow
from tests.reckoned import remainder
from tests.samples import no_rows, no_whole_numbers

ROWS = [[], [0], [255], [0, 0], [0, 0, 0], [1, 2, 3], [184, 66, 1], list(range(256)), [255] * 40,
        [place * 37 % 256 for place in range(300)]]


def no_widths():
    return [-16, -8, -1, 0, 1, 7, 9, 12, 15, 17, 24, 32, 64, 10 ** 5000] + no_whole_numbers()


class CheckOfTest(unittest.TestCase):
    def test_values_reckoned_by_hand(self):
        self.assertEqual(check_of([], 8), 255)
        self.assertEqual(check_of([], 16), 65535)
        self.assertEqual(check_of([255], 8), 0)
        self.assertEqual(check_of([254], 8), 29)
        self.assertEqual(check_of([255], 16), 0xFF00)
        self.assertEqual(check_of([254], 16), 0xFF2D)
        self.assertEqual(check_of([255, 255], 16), 0)
        self.assertEqual(check_of([255, 254], 16), 45)

    def test_value_known_of_eight_bits(self):
        # The SAE J1850 check of these nine signs is 0x4B with all bits turned round.
        self.assertEqual(check_of([ord(sign) for sign in "123456789"], 8), 0x4B ^ 255)

    def test_each_byte_by_another_way(self):
        for wide in (8, 16):
            for byte in range(256):
                self.assertEqual(check_of([byte], wide), remainder([byte], wide), (byte, wide))

    def test_rows_by_another_way(self):
        for wide in (8, 16):
            for row in ROWS:
                kept = list(row)
                self.assertEqual(check_of(row, wide), remainder(row, wide), (row, wide))
                self.assertEqual(row, kept)

    def test_wide_left_out_is_16(self):
        for row in ROWS:
            check = Check()
            check.add(row)
            self.assertEqual(check.value(), check_of(row, 16))
            self.assertEqual(check_of(row), check_of(row, 16))

    def test_names_of_arguments(self):
        check = Check(wide=8)
        check.add(row=[1, 2])
        self.assertEqual(check.value(), check_of(row=[1, 2], wide=8))

    def test_each_changed_bit_tells(self):
        for wide in (8, 16):
            for row in ROWS:
                good = check_of(row, wide)
                for place in range(8 * len(row)):
                    changed = list(row)
                    changed[place // 8] ^= 1 << place % 8
                    self.assertNotEqual(check_of(changed, wide), good, (row, wide, place))

    def test_refusals(self):
        for place, row in enumerate(no_rows()):
            for wide in (8, 16):
                with self.subTest(place=place, wide=wide):
                    self.assertRaises(BadRow, check_of, row, wide)
            self.assertRaises(BadRow, check_of, row)

    def test_bad_bits_ahead_of_bad_row(self):
        for place, wide in enumerate(no_widths()):
            for row in ([], [1, 2], [256], None, "abc"):
                with self.subTest(place=place, row=row):
                    self.assertRaises(BadBits, check_of, row, wide)


class CheckTest(unittest.TestCase):
    def test_begins_as_all_ones(self):
        self.assertEqual(Check(8).value(), 255)
        self.assertEqual(Check(16).value(), 65535)
        self.assertEqual(Check().value(), 65535)

    def test_pieces_as_at_once(self):
        for wide in (8, 16):
            for row in ROWS:
                for cut in range(0, len(row) + 1, max(1, len(row) // 9)):
                    check = Check(wide)
                    self.assertIsNone(check.add(row[:cut]))
                    self.assertEqual(check.value(), check_of(row[:cut], wide))
                    check.add([])
                    check.add(row[cut:])
                    self.assertEqual(check.value(), check_of(row, wide))

    def test_byte_by_byte(self):
        for wide in (8, 16):
            check = Check(wide)
            for many, byte in enumerate(ROWS[-1], start=1):
                check.add([byte])
                self.assertEqual(check.value(), remainder(ROWS[-1][:many], wide))

    def test_asking_changes_nothing(self):
        check = Check(8)
        check.add([1, 2, 3])
        self.assertEqual([check.value(), check.value()], [check_of([1, 2, 3], 8)] * 2)

    def test_checks_stand_by_themselves(self):
        first, second = Check(8), Check(8)
        first.add([1])
        self.assertEqual(second.value(), 255)
        self.assertEqual(Check(8).value(), 255)

    def test_handed_row_may_be_changed_later(self):
        row = [1, 2, 3]
        check = Check()
        check.add(row)
        self.assertEqual(row, [1, 2, 3])
        row[0] = 9
        self.assertEqual(check.value(), check_of([1, 2, 3]))

    def test_bad_widths(self):
        for place, wide in enumerate(no_widths()):
            with self.subTest(place=place):
                self.assertRaises(BadBits, Check, wide)

    def test_what_is_refused_adds_nothing(self):
        for wide in (8, 16):
            check = Check(wide)
            check.add([5, 6])
            for place, row in enumerate(no_rows()):
                with self.subTest(place=place, wide=wide):
                    self.assertRaises(BadRow, check.add, row)
                    self.assertEqual(check.value(), check_of([5, 6], wide))
            check.add([7])
            self.assertEqual(check.value(), check_of([5, 6, 7], wide))


class WithCheckTest(unittest.TestCase):
    def test_two_bytes_the_highest_first(self):
        self.assertEqual(with_check([]), [255, 255])
        self.assertEqual(with_check([255, 254]), [255, 254, 0, 45])
        for row in ROWS:
            kept = list(row)
            check = remainder(row, 16)
            self.assertEqual(with_check(row), row + [check // 256, check % 256])
            self.assertEqual(row, kept)

    def test_ends_in_check(self):
        for row in ROWS:
            right = with_check(row)
            self.assertIs(ends_in_check(right), True)
            for place in range(8 * len(right)):
                turned = list(right)
                turned[place // 8] ^= 1 << place % 8
                self.assertIs(ends_in_check(turned), False)
        for row in ([], [255], [0]):
            self.assertIs(ends_in_check(row), False)


if __name__ == "__main__":
    unittest.main()
