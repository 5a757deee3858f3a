import unittest

from balepress.errors import BadTail
from balepress.parts import need_tail
from tests.reckoned import checked, remainder


class NeedTailTest(unittest.TestCase):
    """Counts of signs that no test could press: the rest by 2 ** 32 is told."""

    def tail_with(self, count):
        return checked([0, 0, remainder([0, 0], 8)] + list(count.to_bytes(4, "big")) + [1, 2])

    def test_counts_go_by_2_to_the_32(self):
        for count in (0, 1, 65536, 2 ** 32 - 1, 0x12345678):
            for more in (0, 2 ** 32, 5 * 2 ** 32):
                self.assertIsNone(need_tail(self.tail_with(count), count + more))
                self.assertRaises(BadTail, need_tail, self.tail_with(count), count + more + 1)
                self.assertRaises(BadTail, need_tail, self.tail_with(count), count + more + 256)


if __name__ == "__main__":
    unittest.main()
